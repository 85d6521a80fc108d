/- What a heap's trail and its points tell, as plain data: words that were written over, and how they come back. -/
import Derived.Deep.CutRange
import Derived.Test.YtlibjdilicfcdaaGreatDoornb31Z
import Derived.Test.YtlibjdilicfcdaaGreatDoornb30Z
import Derived.Test.YtlibjdilicfcdaaGreatDoornb27Z
import Derived.Test.YtlibjdilicfcdaaGreatDoornb02Z
import Derived.Test.YtlibjdilicfcdaaGreatDoornb34Z
namespace Go.Proofs.YtlibjdilicfcdaaGreatDoor
set_option maxRecDepth 100000
open Go.RowKit
abbrev Te := Nat × Int
def undW (l : List Int) (tr : List Te) : List Int := tr.foldr (fun e a => a.set e.1 e.2) l
theorem undW_app (l : List Int) (a b : List Te) : undW l (a ++ b) = undW (undW l b) a := List.foldr_append ..
theorem undW_snoc (l : List Int) (a : List Te) (e : Te) : undW l (a ++ [e]) = undW (l.set e.1 e.2) a := by rw [undW_app]; rfl
theorem undW_len (l : List Int) : ∀ tr, (undW l tr).length = l.length
  | [] => rfl
  | e :: r => by
    show ((undW l r).set e.1 e.2).length = _
    rw [List.length_set, undW_len l r]
theorem undW_take (l : List Int) (K : Nat) : ∀ tr, (undW l tr).take K = undW (l.take K) tr
  | [] => rfl
  | e :: r => by
    show ((undW l r).set e.1 e.2).take K = (undW (l.take K) r).set e.1 e.2
    rw [← undW_take l K r, List.take_set]
abbrev Pe := Nat × Nat
def seesB (pt : List Pe) (k : Nat) : Bool := match pt.getLast? with
  | some p => decide (k < p.2)
  | none => false
def trW (l : List Int) (tr : List Te) (pt : List Pe) (k : Nat) : List Te := if seesB pt k = true then tr ++ [(k, l.getD k 0)] else tr
def atP (l : List Int) (tr : List Te) (p : Pe) : List Int := undW (l.take p.2) (tr.drop p.1)
def SndN (l : List Int) (N : Nat) : Prop := (∃ V, Snd l V) ∧ NsB l N
structure SI (l : List Int) (N : Nat) (tr : List Te) (pt : List Pe) : Prop where
  now : SndN l N
  ent : ∀ e ∈ tr, e.1 < l.length ∧ (0 ≤ e.2 ∧ e.2 ≤ 18446744073709551615) ∧ mayB e.2 l.length = true
  len : ∀ p ∈ pt, p.1 ≤ tr.length ∧ p.2 ≤ l.length
  old : ∀ p ∈ pt, ∀ e ∈ tr.take p.1, e.1 < p.2 ∧ mayB e.2 p.2 = true
  was : ∀ p ∈ pt, SndN (atP l tr p) N
  mono : pt.Pairwise (fun p q => p.1 ≤ q.1 ∧ p.2 ≤ q.2)
theorem SI.last {l : List Int} {N : Nat} {tr : List Te} {pt : List Pe} (h : SI l N tr pt) {p q : Pe} (hp : p ∈ pt) (hq : pt.getLast? = some q) : p.1 ≤ q.1 ∧ p.2 ≤ q.2 := by
  obtain ⟨i, hi, e⟩ := List.getElem_of_mem hp
  have hl : q = pt[pt.length - 1]'(by omega) := by
    rw [List.getLast?_eq_getElem?] at hq
    rw [List.getElem?_eq_getElem (by omega)] at hq
    exact (Option.some.inj hq).symm
  rcases Nat.lt_or_ge i (pt.length - 1) with h1 | h1
  · have := List.pairwise_iff_getElem.1 h.mono i (pt.length - 1) hi (by omega) h1
    rw [e, ← hl] at this
    exact this
  · have e2 : i = pt.length - 1 := by omega
    subst e2
    rw [← e, hl]
    exact ⟨Nat.le_refl _, Nat.le_refl _⟩
theorem atP_write {l : List Int} {N : Nat} {tr : List Te} {pt : List Pe} (h : SI l N tr pt) {p : Pe} (hp : p ∈ pt) {k : Nat} (hk : k < l.length) (x : Int) : atP (l.set k x) (trW l tr pt k) p = atP l tr p := by
  unfold atP trW
  have hl := h.len p hp
  split
  · rename_i hs
    rw [List.drop_append_of_le_length hl.1, undW_snoc, List.take_set]
    congr 1
    by_cases hkp : k < p.2
    · rw [List.set_set]
      apply List.ext_getElem?
      intro i
      rw [List.getElem?_set]
      split
      · rename_i e
        subst e
        have e1 : k < (l.take p.2).length := by simp; omega
        rw [if_pos e1, List.getElem?_take, if_pos hkp]
        simp [List.getD, hk]
      · rfl
    · rw [List.set_eq_of_length_le (by simp; omega), List.set_eq_of_length_le (by simp; omega)]
  · rename_i hs
    have hkp : p.2 ≤ k := by
      cases hq : pt.getLast? with
      | none => rw [List.getLast?_eq_none_iff] at hq; subst hq; cases hp
      | some q =>
        have h1 := h.last hp hq
        have h2 : ¬ k < q.2 := fun h3 => hs (by unfold seesB; rw [hq]; exact decide_eq_true h3)
        omega
    rw [List.take_set, List.set_eq_of_length_le (by simp; omega)]
theorem snd_may {l : List Int} {V : Nat → Bool} (h : Snd l V) {k : Nat} (hk : k < l.length) : (0 ≤ l.getD k 0 ∧ l.getD k 0 ≤ 18446744073709551615) ∧ mayB (l.getD k 0) l.length = true := by
  have hg := h.good k hk
  have hr := h.rng (l.getD k 0) (by simp [List.getD, hk])
  refine ⟨hr, ?_⟩
  unfold mayB
  have hg' : goodB (l.getD k 0) = true := hg
  rw [hg', Bool.true_and]
  by_cases ht : tellsB (l.getD k 0) = true
  · have h3 : l.getD k 0 % 8 = 0 ∨ l.getD k 0 % 8 = 3 ∨ l.getD k 0 % 8 = 5 := by simpa [tellsB] using ht
    have hv := val_place hg' h3
    have : vlN l k < l.length := by
      rcases h3 with e | e | e
      · exact (h.ref k hk e).1
      · exact (h.str k hk e).1
      · exact Nat.lt_trans (h.fwd k hk e).1 hk
    have e2 : vlN l k = (valOf (l.getD k 0)).toNat := rfl
    rw [Bool.or_eq_true]
    exact Or.inr (decide_eq_true (by omega))
  · simp only [Bool.not_eq_true] at ht
    rw [ht]
    rfl
theorem may_mono {x a b : Int} (h : mayB x a = true) (hab : a ≤ b) : mayB x b = true := by
  unfold mayB at *
  rw [Bool.and_eq_true, Bool.or_eq_true] at *
  exact ⟨h.1, h.2.imp id (fun h => decide_eq_true (by have := of_decide_eq_true h; omega))⟩
theorem SI.write {l : List Int} {N : Nat} {tr : List Te} {pt : List Pe} (h : SI l N tr pt) {k : Nat} (hk : k < l.length) {x : Int} (hn : SndN (l.set k x) N) : SI (l.set k x) N (trW l tr pt k) pt := by
  obtain ⟨V, hV⟩ := h.now.1
  have hm := snd_may hV hk
  have hlt : tr.length ≤ (trW l tr pt k).length := by unfold trW; split <;> simp
  refine ⟨hn, fun e he => ?_, fun p hp => ⟨Nat.le_trans (h.len p hp).1 hlt, by rw [List.length_set]; exact (h.len p hp).2⟩, fun p hp e he => ?_, fun p hp => by rw [atP_write h hp hk]; exact h.was p hp, h.mono⟩
  · rw [List.length_set]
    unfold trW at he
    split at he
    · rcases List.mem_append.1 he with he | he
      · exact h.ent e he
      · have e2 : e = (k, l.getD k 0) := by simpa using he
        subst e2
        exact ⟨hk, hm.1, hm.2⟩
    · exact h.ent e he
  · refine h.old p hp e ?_
    unfold trW at he
    split at he
    · rwa [List.take_append_of_le_length (h.len p hp).1] at he
    · exact he
theorem nsb_more {l : List Int} {N N' : Nat} (h : NsB l N) (hle : N ≤ N') : NsB l N' := ⟨fun k hk ht => by have := h.1 k hk ht; omega, fun k hk ht => by have := h.2 k hk ht; omega⟩
theorem atP_put {l m : List Int} {tr : List Te} {p : Pe} (hp : p.2 ≤ l.length) : atP (l ++ m) tr p = atP l tr p := by
  unfold atP
  rw [List.take_append_of_le_length hp]
theorem SI.put {l m : List Int} {N N' : Nat} {tr : List Te} {pt : List Pe} (h : SI l N tr pt) (hN : N ≤ N') (hn : SndN (l ++ m) N') : SI (l ++ m) N' tr pt := by
  have hl : l.length ≤ (l ++ m).length := by simp
  refine ⟨hn, fun e he => ?_, fun p hp => ⟨(h.len p hp).1, Nat.le_trans (h.len p hp).2 hl⟩, h.old, fun p hp => ?_, h.mono⟩
  · obtain ⟨h1, h2, h3⟩ := h.ent e he
    exact ⟨by omega, h2, may_mono h3 (by omega)⟩
  · rw [atP_put (h.len p hp).2]
    exact ⟨(h.was p hp).1, nsb_more (h.was p hp).2 hN⟩
theorem SI.point {l : List Int} {N : Nat} {tr : List Te} {pt : List Pe} (h : SI l N tr pt) : SI l N tr (pt ++ [(tr.length, l.length)]) := by
  have hc : ∀ p ∈ pt ++ [(tr.length, l.length)], p ∈ pt ∨ p = (tr.length, l.length) := fun p hp => by
    rcases List.mem_append.1 hp with hp | hp
    · exact Or.inl hp
    · exact Or.inr (by simpa using hp)
  refine ⟨h.now, h.ent, fun p hp => ?_, fun p hp e he => ?_, fun p hp => ?_, ?_⟩
  · rcases hc p hp with hp | rfl
    · exact h.len p hp
    · exact ⟨Nat.le_refl _, Nat.le_refl _⟩
  · rcases hc p hp with hp | rfl
    · exact h.old p hp e he
    · have := h.ent e (List.mem_of_mem_take he)
      exact ⟨this.1, this.2.2⟩
  · rcases hc p hp with hp | rfl
    · exact h.was p hp
    · unfold atP
      rw [List.take_length, List.drop_length]
      exact h.now
  · rw [List.pairwise_append]
    refine ⟨h.mono, List.pairwise_singleton _ _, fun p hp q hq => ?_⟩
    have e : q = (tr.length, l.length) := by simpa using hq
    subst e
    exact h.len p hp
theorem SI.release {l : List Int} {N : Nat} {tr : List Te} {pt : List Pe} (h : SI l N tr pt) (n : Nat) : SI l N tr (pt.take n) :=
  ⟨h.now, h.ent, fun p hp => h.len p (List.mem_of_mem_take hp), fun p hp => h.old p (List.mem_of_mem_take hp), fun p hp => h.was p (List.mem_of_mem_take hp), h.mono.sublist (List.take_sublist _ _)⟩
theorem atP_undo {l : List Int} {tr : List Te} {p q : Pe} (h1 : p.1 ≤ q.1) (h2 : p.2 ≤ q.2) (hq1 : q.1 ≤ tr.length) : atP (atP l tr q) (tr.take q.1) p = atP l tr p := by
  unfold atP
  have e : tr.drop p.1 = (tr.take q.1).drop p.1 ++ tr.drop q.1 := by
    rw [← List.drop_append_of_le_length (by simp; omega), List.take_append_drop]
  rw [e, undW_app, undW_take, List.take_take, Nat.min_eq_left h2]
theorem SI.undo {l : List Int} {N : Nat} {tr : List Te} {pt : List Pe} (h : SI l N tr pt) (n : Nat) (hn : n < pt.length) : SI (atP l tr pt[n]) N (tr.take pt[n].1) (pt.take (n + 1)) := by
  have hm : pt[n] ∈ pt := List.getElem_mem hn
  have hl := h.len _ hm
  have hlen : (atP l tr pt[n]).length = pt[n].2 := by
    unfold atP
    rw [undW_len, List.length_take]
    omega
  have hle : ∀ p ∈ pt.take (n + 1), p.1 ≤ pt[n].1 ∧ p.2 ≤ pt[n].2 := fun p hp => by
    obtain ⟨i, hi, e⟩ := List.getElem_of_mem hp
    rw [List.getElem_take] at e
    have hi2 : i < pt.length ∧ i ≤ n := by simp at hi; omega
    rcases Nat.lt_or_ge i n with h1 | h1
    · have := List.pairwise_iff_getElem.1 h.mono i n hi2.1 hn h1
      rw [e] at this
      exact this
    · have e2 : i = n := by omega
      subst e2
      rw [← e]
      exact ⟨Nat.le_refl _, Nat.le_refl _⟩
  refine ⟨h.was _ hm, fun e he => ?_, fun p hp => ?_, fun p hp e he => ?_, fun p hp => ?_, h.mono.sublist (List.take_sublist _ _)⟩
  · rw [hlen]
    have h1 := h.old _ hm e he
    exact ⟨h1.1, (h.ent e (List.mem_of_mem_take he)).2.1, h1.2⟩
  · rw [hlen, List.length_take]
    have := hle p hp
    exact ⟨by omega, this.2⟩
  · refine h.old p (List.mem_of_mem_take hp) e ?_
    rw [List.take_take, Nat.min_eq_left (hle p hp).1] at he
    exact he
  · rw [atP_undo (hle p hp).1 (hle p hp).2 hl.1]
    exact h.was p (List.mem_of_mem_take hp)
end Go.Proofs.YtlibjdilicfcdaaGreatDoor

namespace Go.Proofs.YtlibjdilicfcdaaGreatDoor
set_option maxRecDepth 100000
open Go.RowKit
theorem trm_kinds {l : List Int} {V : Nat → Bool} {N : Nat} (h : Snd l V) (hn : NsB l N) (hl : l.length ≤ 65536) {k : Nat} (hk : k < l.length) : ((0 ≤ trmW l k ∧ trmW l k ≤ 18446744073709551615) ∧ goodB (trmW l k) = true) ∧
    ((trmW l k % 8 = 0 ∧ ∃ j : Nat, j < l.length ∧ valOf (trmW l k) = (j : Int) ∧ V j = true) ∨ (trmW l k % 8 = 3 ∧ ∃ j : Nat, j < l.length ∧ valOf (trmW l k) = (j : Int) ∧ tgN l j = 4) ∨ (trmW l k % 8 = 1 ∧ (valOf (trmW l k)).toNat < N) ∨ trmW l k % 8 = 2) := by
  obtain ⟨j, hj, e, e2⟩ := trm_ends h _ k hk (Nat.le_refl _)
  rw [e2]
  have hg := h.good j hj
  have hr := h.rng (wdN l j) (by unfold wdN; simp [List.getD, hj])
  unfold endW
  by_cases h4 : tgN l j = 4
  · rw [if_pos h4]
    obtain ⟨s1, s2, s3, s4⟩ := word_str (j := j) (by omega)
    refine ⟨⟨⟨s3, s4⟩, ?_⟩, Or.inr (Or.inl ⟨s1, j, hj, s2, h4⟩)⟩
    unfold goodB
    rw [s1, s2]
    exact fits_str (by omega)
  · rw [if_neg h4]
    have htc := tag_cases hg
    have ht : wdN l j % 8 = tgN l j := rfl
    have hne : ¬ (tgN l j = 3 ∨ tgN l j = 5) := fun h3 => by
      unfold nxN at e
      rw [if_neg (by omega), if_pos h3] at e
      cases e
    refine ⟨⟨hr, hg⟩, ?_⟩
    by_cases h0 : tgN l j = 0
    · have hself : vlN l j = j := by
        unfold nxN at e
        rw [if_pos h0] at e
        by_cases hs : vlN l j = j
        · exact hs
        · rw [if_neg hs] at e
          cases e
      have hv := val_place hg (Or.inl (ht ▸ h0))
      have hV := (h.ref j hj h0).2.1
      rw [hself] at hV
      unfold vlN at hself
      exact Or.inl ⟨ht ▸ h0, j, hj, by omega, hV⟩
    · by_cases h1 : tgN l j = 1
      · exact Or.inr (Or.inr (Or.inl ⟨ht ▸ h1, hn.atom j hj h1⟩))
      · exact Or.inr (Or.inr (Or.inr (by omega)))
theorem nsb_set {l : List Int} {N : Nat} (hn : NsB l N) {j : Nat} {x : Int} (hj : j < l.length) (h1 : x % 8 = 1 → (valOf x).toNat < N) (h4 : x % 8 ≠ 4) : NsB (l.set j x) N := by
  refine ⟨fun k hk ht => ?_, fun k hk ht => ?_⟩
  · rw [List.length_set] at hk
    by_cases e : k = j
    · subst e
      rw [(tg_new hj).1] at ht
      rw [(tg_new hj).2]
      exact h1 ht
    · rw [(tg_set hj e).1] at ht
      rw [(tg_set hj e).2]
      exact hn.atom k hk ht
  · rw [List.length_set] at hk
    by_cases e : k = j
    · subst e
      rw [(tg_new hj).1] at ht
      exact absurd ht h4
    · rw [(tg_set hj e).1] at ht
      rw [wd_set hj, if_neg e]
      exact hn.func k hk ht
theorem bind_sndn {l : List Int} {N : Nat} (h : SndN l N) (hl : l.length ≤ 65536) {a b : Nat} (ha : a < l.length) (hb : b < l.length) (hv : trmW l a % 8 = 0) (hle : trmW l b % 8 = 0 → valOf (trmW l b) ≤ valOf (trmW l a)) : (valOf (trmW l a)).toNat < l.length ∧ SndN (l.set (valOf (trmW l a)).toNat (trmW l b)) N := by
  obtain ⟨⟨V, hV⟩, hn⟩ := h
  obtain ⟨_, ka⟩ := trm_kinds hV hn hl ha
  obtain ⟨⟨rb, gb⟩, kb⟩ := trm_kinds hV hn hl hb
  obtain ⟨j, hj, vj, Vj⟩ : ∃ j : Nat, j < l.length ∧ valOf (trmW l a) = (j : Int) ∧ V j = true := by
    rcases ka with ⟨_, h⟩ | ⟨e, _⟩ | ⟨e, _⟩ | e
    · exact h
    · omega
    · omega
    · omega
  rw [vj, Int.toNat_natCast]
  rw [vj] at hle
  refine ⟨hj, ⟨V, snd_bind hV hj Vj rb gb (by rcases kb with ⟨e, _⟩ | ⟨e, _⟩ | ⟨e, _⟩ | e <;> omega) (fun e => ?_) (fun e => ?_)⟩, nsb_set hn hj (fun e => ?_) (by rcases kb with ⟨e, _⟩ | ⟨e, _⟩ | ⟨e, _⟩ | e <;> omega)⟩
  · rcases kb with ⟨_, i, hi, vi, Vi⟩ | ⟨e', _⟩ | ⟨e', _⟩ | e'
    · have := hle e
      rw [vi] at this
      rw [vi, Int.toNat_natCast]
      exact ⟨by omega, Vi⟩
    all_goals omega
  · rcases kb with ⟨e', _⟩ | ⟨_, i, hi, vi, ti⟩ | ⟨e', _⟩ | e'
    · omega
    · rw [vi, Int.toNat_natCast]
      exact ⟨hi, Or.inl ti⟩
    all_goals omega
  · rcases kb with ⟨e', _⟩ | ⟨e', _⟩ | ⟨_, h⟩ | e'
    · omega
    · omega
    · exact h
    · omega
theorem merge_sndn {l : List Int} {N : Nat} (h : SndN l N) (hl : l.length ≤ 65536) {i j : Nat} (hj : j < l.length) (hij : i < j) (ti : tgN l i = 4) (tj : tgN l j = 4) : SndN (l.set j (wordOf 5 (i : Int))) N := by
  obtain ⟨⟨V, hV⟩, hn⟩ := h
  have hf : fitsB 5 (i : Int) = true := by
    simp [fitsB]
    omega
  have ht : wordOf 5 (i : Int) % 8 = 5 := wordOf_tag 5 (i : Int) (by omega) (by omega)
  have hv : valOf (wordOf 5 (i : Int)) = (i : Int) := wordOf_val 5 (i : Int) hf
  have hg : goodB (wordOf 5 (i : Int)) = true := by
    unfold goodB
    rw [ht, hv]
    exact hf
  exact ⟨⟨V, snd_fwd hV hj (Or.inl tj) hij (Or.inl ti) (wordOf_bd 5 (i : Int)) hg ht hv⟩, nsb_set hn hj (by omega) (by omega)⟩
end Go.Proofs.YtlibjdilicfcdaaGreatDoor

namespace Go.Proofs.YtlibjdilicfcdaaGreatDoor
set_option maxRecDepth 100000
open Go.RowKit
theorem infoSv : (Tryz.prog.info? 149).map (fun i => (i.zero, i.size, i.bytes)) = some (some (.agg #[.int .i64 0, .int .u64 0]), 2, 16) := by kernel_rfl
def svC (tr : List Te) : List Value := tr.flatMap fun e => [.int .i64 (e.1 : Int), .int .u64 e.2]
def mkC (pt : List Pe) : List Value := pt.flatMap fun p => [.int .i64 (p.1 : Int), .int .i64 (p.2 : Int), .slice none 0 0]
theorem svC_app (a b : List Te) : svC (a ++ b) = svC a ++ svC b := by simp [svC]
theorem mkC_at : ∀ (l : List Pe) (j : Nat), j < l.length → (mkC l)[j * 3]? = some (.int .i64 ((l.getD j (0, 0)).1 : Int)) ∧ (mkC l)[j * 3 + 1]? = some (.int .i64 ((l.getD j (0, 0)).2 : Int)) ∧ (mkC l)[j * 3 + 2]? = some (.slice none 0 0)
  | [], j, h => absurd h (Nat.not_lt_zero _)
  | p :: r, 0, _ => ⟨rfl, rfl, rfl⟩
  | p :: r, j + 1, h => by
    have := mkC_at r j (by simpa using h)
    rw [show (j + 1) * 3 = j * 3 + 1 + 1 + 1 by omega]
    have e : mkC (p :: r) = .int .i64 (p.1 : Int) :: .int .i64 (p.2 : Int) :: .slice none 0 0 :: mkC r := rfl
    rw [e]
    simpa [List.getD] using this
structure Hq (w : World) (B hb ab tb : Nat) (m : Int) (av : Value) (l : List Int) (tv : Value) (tq : Nat) (ns : List ByteArray) (trv : Value) (tr : List Te) (ptv : Value) (pt : List Pe) (n : Int) : Prop where
  hp : Hp w B hb ab tb m av l tv tq ns trv ptv n
  tr : w.ownsRow B 149 2 trv tr.length (svC tr)
  pt : w.ownsRow B 145 3 ptv pt.length (mkC pt)
def qfoot (hb ab : Nat) (av trv ptv : Value) : List Nat := hb :: (a_foot ab av ++ (trv.ownBlock.toList ++ ptv.ownBlock.toList))
theorem mem_qfoot {hb ab k : Nat} {av trv ptv : Value} : k ∈ qfoot hb ab av trv ptv ↔ k = hb ∨ k ∈ a_foot ab av ∨ trv.ownBlock = some k ∨ ptv.ownBlock = some k := by simp [qfoot]
theorem own_slq {w : World} {B z : Nat} {e : TypeId} {v : Value} {n : Nat} {xs : List Value} (h : w.ownsRow B e z v n xs) : ∃ ao c, v = .slice ao n c ∧ n ≤ c ∧ c ≤ maxLen ∧ (ao = none → n = 0 ∧ c = 0) ∧ (∀ a, ao = some a → a = ⟨a.block, 0, none⟩) := by
  rcases h.2 with ⟨rfl, h0⟩ | ⟨g, cap, cur, rfl, _, _, hc, hm, _⟩
  · exact ⟨none, 0, by rw [h0], by omega, by unfold maxLen; omega, (fun _ => ⟨h0, rfl⟩), (fun a e => by cases e)⟩
  · exact ⟨_, cap, rfl, hc, hm, (fun e => by cases e), (fun a e => by cases e; rfl)⟩
theorem own_cut {w : World} {B z : Nat} {e : TypeId} {ao : Option Addr} {c n k : Nat} {xs : List Value} (h : w.ownsRow B e z (.slice ao n c) n xs) (hk : k ≤ n) : w.ownsRow B e z (.slice ao k c) k (xs.take (k * z)) := by
  have h1 := h.1
  have hkz : k * z ≤ n * z := Nat.mul_le_mul_right z hk
  refine ⟨by rw [List.length_take]; omega, ?_⟩
  rcases h.2 with ⟨e0, h0⟩ | ⟨g, cap, cur, e0, hb, hg, hc, hm, hs, ht⟩
  · injection e0 with e1 e2 e3
    subst e1 e3
    have : k = 0 := by omega
    subst this
    exact Or.inl ⟨rfl, rfl⟩
  · injection e0 with e1 e2 e3
    subst e1 e3
    refine Or.inr ⟨g, c, cur, rfl, hb, hg, by omega, hm, hs, ?_⟩
    rw [← ht, List.take_take, Nat.min_eq_left hkz]
section
variable {w w' : World} {B hb ab tb : Nat} {m : Int} {av : Value} {l : List Int} {tv : Value} {tq : Nat} {ns : List ByteArray} {trv : Value} {tr : List Te} {ptv : Value} {pt : List Pe} {n : Int}
theorem Hq.below (h : Hq w B hb ab tb m av l tv tq ns trv tr ptv pt n) (hm : Below w.heap.size w w') : Hq w' B hb ab tb m av l tv tq ns trv tr ptv pt n :=
  ⟨h.hp.below hm, row_keep h.tr (fun k hk => hm.block k (h.tr.lt k hk).2), row_keep h.pt (fun k hk => hm.block k (h.pt.lt k hk).2)⟩
theorem Hq.aty (h : Hq w B hb ab tb m av l tv tq ns trv tr ptv pt n) {k : Nat} (hk : k ∈ a_foot ab av) : ∃ cs T, w.heap[k]? = some (.cells cs T (0, 0)) ∧ (T = 159 ∨ T = 123) := by
  rcases a_mem_foot.1 hk with rfl | hk
  · exact ⟨_, _, h.hp.ar.blk, Or.inl rfl⟩
  · obtain ⟨cur, hc, _⟩ := own_block_obj h.hp.ar.own hk
    exact ⟨cur, _, hc, Or.inr rfl⟩
theorem Hq.nty (h : Hq w B hb ab tb m av l tv tq ns trv tr ptv pt n) {k : Nat} (hk : k ∈ n_foot tb tv tq) : (∃ cs T, w.heap[k]? = some (.cells cs T (0, 0)) ∧ (T = 162 ∨ T = 9)) ∨ (∀ cs T x, w.heap[k]? ≠ some (.cells cs T x)) := by
  rcases n_mem_foot.1 hk with e | e | e
  · subst e
    exact Or.inl ⟨_, _, h.hp.tb.blk, Or.inl rfl⟩
  · subst e
    obtain ⟨D, ⟨es, clock, hq, _⟩, _⟩ := h.hp.tb.map
    refine Or.inr (fun cs T x hx => ?_)
    rw [hq] at hx
    simp at hx
  · obtain ⟨cur, hc, _⟩ := own_block_obj h.hp.tb.own e
    exact Or.inl ⟨cur, _, hc, Or.inr rfl⟩
theorem Hq.apart (h : Hq w B hb ab tb m av l tv tq ns trv tr ptv pt n) {k : Nat} (hk : trv.ownBlock = some k ∨ ptv.ownBlock = some k) : k ≠ hb ∧ k ∉ a_foot ab av ∧ k ∉ n_foot tb tv tq ∧ ¬ (trv.ownBlock = some k ∧ ptv.ownBlock = some k) := by
  have hT : ∃ cs T, w.heap[k]? = some (.cells cs T (0, 0)) ∧ (T = 149 ∨ T = 145) := by
    rcases hk with hk | hk
    · obtain ⟨cur, hc, _⟩ := own_block_obj h.tr hk
      exact ⟨cur, _, hc, Or.inl rfl⟩
    · obtain ⟨cur, hc, _⟩ := own_block_obj h.pt hk
      exact ⟨cur, _, hc, Or.inr rfl⟩
  obtain ⟨cs, T, hw, hTT⟩ := hT
  refine ⟨fun e => ?_, fun hf => ?_, fun hf => ?_, fun ⟨h1, h2⟩ => ?_⟩
  · subst e
    exact obj_ne hw h.hp.blk (by rcases hTT with rfl | rfl <;> decide) rfl
  · obtain ⟨cs', T', hw', hTT'⟩ := h.aty hf
    exact obj_ne hw hw' (by rcases hTT with rfl | rfl <;> rcases hTT' with rfl | rfl <;> decide) rfl
  · rcases h.nty hf with ⟨cs', T', hw', hTT'⟩ | hno
    · exact obj_ne hw hw' (by rcases hTT with rfl | rfl <;> rcases hTT' with rfl | rfl <;> decide) rfl
    · exact hno _ _ _ hw
  · obtain ⟨c1, e1, _⟩ := own_block_obj h.tr h1
    obtain ⟨c2, e2, _⟩ := own_block_obj h.pt h2
    exact obj_ne e1 e2 (by decide) rfl
theorem Hq.rows (h : Hq w B hb ab tb m av l tv tq ns trv tr ptv pt n) {ks : List Nat} (hm : a_Mod ks w w') (hk : ∀ k ∈ ks, ¬ (trv.ownBlock = some k ∨ ptv.ownBlock = some k)) : w'.ownsRow B 149 2 trv tr.length (svC tr) ∧ w'.ownsRow B 145 3 ptv pt.length (mkC pt) :=
  ⟨row_keep h.tr (fun k e => hm.block k (h.tr.lt k e).2 (fun hx => hk k hx (Or.inl e))), row_keep h.pt (fun k e => hm.block k (h.pt.lt k e).2 (fun hx => hk k hx (Or.inr e)))⟩
theorem Hq.words {av' : Value} {l' : List Int} (h : Hq w B hb ab tb m av l tv tq ns trv tr ptv pt n) (u : a_Upd 159 w w' B ab m av l' av') : Hq w' B hb ab tb m av' l' tv tq ns trv tr ptv pt n := by
  obtain ⟨r1, r2⟩ := h.rows u.mod (fun k hk hx => (h.apart hx).2.1 hk)
  exact ⟨h.hp.words u, r1, r2⟩
theorem Hq.own {o : Nat} {u : Value} (h : Hq w B hb ab tb m av l tv tq ns trv tr ptv pt n) : w.heap.size = (w.setCell ⟨hb, o, none⟩ u).heap.size ∧ Ar 159 (w.setCell ⟨hb, o, none⟩ u) B ab m av l ∧ Tb (w.setCell ⟨hb, o, none⟩ u) B tb tv tq ns ∧ (w.setCell ⟨hb, o, none⟩ u).ownsRow B 149 2 trv tr.length (svC tr) ∧ (w.setCell ⟨hb, o, none⟩ u).ownsRow B 145 3 ptv pt.length (mkC pt) := by
  obtain ⟨h1, h2⟩ := h.hp.self
  have hm : a_Mod [hb] w (w.setCell ⟨hb, o, none⟩ u) := (a_Mod.refl [hb] w).setCell (p := ⟨hb, o, none⟩) (Or.inl (by simp)) _
  obtain ⟨r1, r2⟩ := h.rows hm (fun k hk hx => (h.apart hx).1 (by simpa using hk))
  refine ⟨by simp, h.hp.ar.keep hm (fun k hk => by
    have e : k = hb := by simpa using hk
    rw [e]; exact h1), h.hp.tb.keep (mod_an hm) (fun k hk => by
    have e : k = hb := by simpa using hk
    rw [e]; exact h2), r1, r2⟩
theorem Hq.wrote (h : Hq w B hb ab tb m av l tv tq ns trv tr ptv pt n) (n' : Int) : Hq (w.setCell ⟨hb, 4, none⟩ (.int .i64 n')) B hb ab tb m av l tv tq ns trv tr ptv pt n' := by
  obtain ⟨_, ha, ht, r1, r2⟩ := h.own (o := 4) (u := .int .i64 n')
  exact ⟨⟨heap_setCell_same w hb 4 _ _ (.int .i64 n') h.hp.blk, h.hp.base, ha, ht⟩, r1, r2⟩
theorem Hq.grown {v : Value} (h : Hq w B hb ab tb m av l tv tq ns trv tr ptv pt n) (hv : v = trv ∨ v = ptv) (hg : w.grownBy w' v.ownBlock) : Hp w' B hb ab tb m av l tv tq ns trv ptv n ∧ a_Mod v.ownBlock.toList w w' ∧ (∀ k, k < w.heap.size → v.ownBlock ≠ some k → w'.heap[k]? = w.heap[k]?) := by
  have hb' : ∀ k, k < w.heap.size → v.ownBlock ≠ some k → w'.heap[k]? = w.heap[k]? := fun k hk hn => hg.block k hk (fun e => hn e.symm)
  have hne : ∀ k, v.ownBlock = some k → k ≠ hb ∧ k ∉ a_foot ab av ∧ k ∉ n_foot tb tv tq := fun k hk => by
    have := h.apart (k := k) (by rcases hv with rfl | rfl; exact Or.inl hk; exact Or.inr hk)
    exact ⟨this.1, this.2.1, this.2.2.1⟩
  have hm : a_Mod v.ownBlock.toList w w' := ⟨hg.os, hg.tape, hg.output, hg.size, fun k hk hn => hb' k hk (fun e => hn (by simp [e]))⟩
  refine ⟨⟨(hb' hb (lt_of_block h.hp.blk) (fun e => (hne hb e).1 rfl)).trans h.hp.blk, h.hp.base, h.hp.ar.keep hm (fun k hk => (hne k (by simpa using hk)).2.1), h.hp.tb.keep (mod_an hm) (fun k hk => (hne k (by simpa using hk)).2.2)⟩, hm, hb'⟩
end
end Go.Proofs.YtlibjdilicfcdaaGreatDoor

namespace Go.Proofs.YtlibjdilicfcdaaGreatDoor
set_option maxRecDepth 100000
open Go.RowKit
structure Wb (w1 wc : World) (B bx tb : Nat) (tv : Value) (tq : Nat) (ns' : List ByteArray) (tb' : Nat) (tv' : Value) (tq' : Nat) : Prop where
  b : Below w1.heap.size w1 wc
  x : wc.heap[bx]? = some (.cells #[.pointer (some ⟨tb', 0, none⟩)] 76)
  f : w1.heap.size ≤ bx
  t : Tb wc B tb' tv' tq' ns'
  o : (tb' = tb ∧ tv' = tv ∧ tq' = tq) ∨ ∀ k ∈ n_foot tb' tv' tq', w1.heap.size ≤ k
theorem tb_foot {w : World} {B p q : Nat} {v : Value} {l : List ByteArray} (h : Tb w B p v q l) : ∀ k ∈ n_foot p v q, B ≤ k := fun k hk => by
  rcases n_mem_foot.1 hk with rfl | rfl | hk
  · exact h.base
  · exact h.mbase
  · exact (h.row hk).1
theorem with_tb {w1 wq w3 : World} {B p q p' q' : Nat} {v v' : Value} {ns ns' : List ByteArray} (hT : Tb w1 B p v q ns) (hB : B ≤ w1.heap.size) (hb : Below w1.heap.size w1 wq) (hb3 : Below wq.heap.size wq w3) (h : (p' = p ∧ v' = v ∧ q' = q ∧ ns' = ns) ∨ Tb w3 wq.heap.size p' v' q' ns') : Tb w3 B p' v' q' ns' ∧ ((p' = p ∧ v' = v ∧ q' = q) ∨ ∀ k ∈ n_foot p' v' q', wq.heap.size ≤ k) := by
  rcases h with ⟨rfl, rfl, rfl, rfl⟩ | h
  · exact ⟨hT.below (Below.next hb hb3), Or.inl ⟨rfl, rfl, rfl⟩⟩
  · exact ⟨tb_base h (Nat.le_trans hB hb.size), Or.inr (tb_foot h)⟩
theorem wb_call {w1 wq w3 : World} {B p q p' q' : Nat} {v v' : Value} {ns ns' : List ByteArray} (hT : Tb w1 B p v q ns) (hB : B ≤ w1.heap.size) (hb : Below w1.heap.size w1 wq) (hb3 : Below wq.heap.size wq w3) (h : (p' = p ∧ v' = v ∧ q' = q ∧ ns' = ns) ∨ Tb w3 wq.heap.size p' v' q' ns') : Wb w1 (w3.alloc (.cells #[.pointer (some ⟨p', 0, none⟩)] 76)) B w3.heap.size p v q ns' p' v' q' := by
  obtain ⟨h1, h2⟩ := with_tb hT hB hb hb3 h
  have hz := hb.size
  have hz3 := hb3.size
  refine ⟨Below.next (Below.next hb hb3) (below_alloc _ _), heap_alloc_new _ _, by omega, h1.below (below_alloc _ _), ?_⟩
  rcases h2 with h2 | h2
  · exact Or.inl h2
  · exact Or.inr (fun k hk => Nat.le_trans hz (h2 k hk))
theorem wb_box {w1 wq w3 : World} {B p q p' q' bx : Nat} {v v' : Value} {ns ns' : List ByteArray} {u : Value} (hT : Tb w1 B p v q ns) (hB : B ≤ w1.heap.size) (hb : Below w1.heap.size w1 wq) (hx : wq.heap[bx]? = some (.cells #[u] 76)) (hf : w1.heap.size ≤ bx) (hb3 : Below wq.heap.size wq w3) (h : (p' = p ∧ v' = v ∧ q' = q ∧ ns' = ns) ∨ Tb w3 wq.heap.size p' v' q' ns') : Wb w1 (w3.setCell ⟨bx, 0, none⟩ (.pointer (some ⟨p', 0, none⟩))) B bx p v q ns' p' v' q' := by
  obtain ⟨h1, h2⟩ := with_tb hT hB hb hb3 h
  have hz := hb.size
  have hx3 := (hb3.block _ (lt_of_block hx)).trans hx
  refine ⟨(Below.next hb hb3).setCell (p := ⟨bx, 0, none⟩) hf _, heap_setCell_same w3 bx 0 _ _ _ hx3, hf, h1.keep (ks := [bx]) ((n_Mod.refl _ w3).setCell (p := ⟨bx, 0, none⟩) (Or.inl (by simp)) _) (fun k hk hf2 => ?_), ?_⟩
  · have e : k = bx := by simpa using hk
    subst e
    have hlt := lt_of_block hx
    rcases h2 with ⟨rfl, rfl, rfl⟩ | h2
    · rcases n_mem_foot.1 hf2 with e | e | e
      · have := hT.lt
        omega
      · have := hT.mlt
        omega
      · have := (hT.row e).2.1
        omega
    · have := h2 k hf2
      omega
  · rcases h2 with h2 | h2
    · exact Or.inl h2
    · exact Or.inr (fun k hk => Nat.le_trans hz (h2 k hk))
theorem set_far (w : World) (v : Value) {q i k o : Nat} (h : k ≠ q) : (w.setCell ⟨q, i, none⟩ v).cell? ⟨k, o, none⟩ = w.cell? ⟨k, o, none⟩ := World.cell?_of_block (w := w) (a := ⟨k, o, none⟩) (Below.heap_setCell _ _ _ _ h)
theorem box_cell {w1 w3 : World} (h : Below (w1.alloc (.cells #[.pointer none] 76)).drew.heap.size (w1.alloc (.cells #[.pointer none] 76)).drew w3) : w3.heap[w1.heap.size]? = some (.cells #[.pointer none] 76) ∧ w3.cell? ⟨w1.heap.size, 0, none⟩ = some (.pointer none) ∧ w3.frozen? ⟨w1.heap.size, 0, none⟩ = false := by
  have h0 : w3.heap[w1.heap.size]? = some (.cells #[.pointer none] 76) := (h.block _ (show w1.heap.size < (w1.alloc _).heap.size by simp)).trans (heap_alloc_new w1 _)
  exact ⟨h0, by simp [World.cell?, h0], by simp [World.frozen?, h0]⟩
theorem met_none {g : Gf} (h : g.roots = []) : metF g = [] := by
  unfold metF
  rw [h]
  cases g.nodes.length <;> rfl
section
variable {w1 wc w4 w5 : World} {B hb ab tb bx tb' tq' : Nat} {m : Int} {av av' : Value} {l l' : List Int} {tv tv' : Value} {tq : Nat} {ns ns' : List ByteArray} {trv ptv : Value} {n : Int}
theorem put_lay {W w1 wc w4 w5 : World} {B hb ab tb tb' : Nat} {m : Int} {av av' : Value} {l : List Int} {tv tv' : Value} {tq tq' : Nat} {ns NS : List ByteArray} {trv ptv : Value} {n : Int} {nv rv : Value} {g : Gf} {avs : Nat → Value} {MT : List Int} {CT mc : Nat} {mo : Option Addr}
    (HH : Hp W B hb ab tb m av l tv tq ns trv ptv n) (HGk : ∀ w', a_Mod (hb :: a_foot ab av) W w' → Gra w' nv rv g avs) (Hbw : Below W.heap.size W wc) (Hb4 : Below wc.heap.size wc w4) (HU : a_Upd 159 w4 w5 B ab m av (l ++ frsh l.length CT) av')
    (HP : Hp (w5.setCell ⟨hb, 1, none⟩ (.pointer (some ⟨tb', 0, none⟩))) B hb ab tb' m av' (l ++ frsh l.length CT) tv' tq' NS trv ptv n) {B1 : Nat} (Ho1 : w1.ownsRow B1 3 1 (.slice mo MT.length mc) MT.length (MT.map (Value.int .i64))) (Hb1 : Below W.heap.size W w1) (Hb2 : Below w1.heap.size w1 wc) (hB1 : W.heap.size ≤ B1)
    (Hg : Good g) (Hok : Ok g.nodes.length MT) (Hro : ∀ x ∈ g.roots, x ∈ MT) (Har : ∀ x ∈ MT, ∀ y ∈ g.argsOf x, y ∈ MT) (hTl : (putW NS g MT l.length).length = CT)
    (HTr : ∀ c, c < (putW NS g MT l.length).length → 0 ≤ (putW NS g MT l.length).getD c 0 ∧ (putW NS g MT l.length).getD c 0 ≤ 18446744073709551615 ∧ mayB ((putW NS g MT l.length).getD c 0) (l.length + (putW NS g MT l.length).length) = true) :
    Calls Tryz.prog 60 #[.pointer (some ⟨hb, 0, none⟩), .agg #[nv, rv], .slice mo MT.length mc, .int .i64 (l.length : Int)] (w5.setCell ⟨hb, 1, none⟩ (.pointer (some ⟨tb', 0, none⟩))) fun e w' => ∃ ao c, e = .returned (.slice ao g.roots.length c) ∧ w'.ownsRow W.heap.size 3 1 (.slice ao g.roots.length c) g.roots.length (((List.range g.roots.length).map (fun i => ((l.length + i : Nat) : Int))).map (Value.int .i64)) ∧ Hp w' B hb ab tb' m av' (l ++ putW NS g MT l.length) tv' tq' NS trv ptv n ∧ a_Mod (hb :: a_foot ab av) W w' ∧ a_Nx W av av' := by
  obtain ⟨z0, z1, z2⟩ := HH.ltz
  have hz1 := Hb1.size
  have hz2 := Hb2.size
  have hz4 := Hb4.size
  have hnx : a_Nx W av av' := fun k hk => by
    rcases HU.nx k hk with h | h
    · exact Or.inl h
    · exact Or.inr (by omega)
  have hm5 : a_Mod (hb :: a_foot ab av) W w5 := (a_Mod.ofBelow (Below.next Hbw Hb4)).trans HU.mod (fun x hx => Or.inl (List.mem_cons_of_mem _ hx))
  have hm6 : a_Mod (hb :: a_foot ab av) W (w5.setCell ⟨hb, 1, none⟩ (.pointer (some ⟨tb', 0, none⟩))) := hm5.setCell (p := ⟨hb, 1, none⟩) (Or.inl (by simp)) _
  have hm65 : a_Mod (hb :: a_foot ab av) w4 (w5.setCell ⟨hb, 1, none⟩ (.pointer (some ⟨tb', 0, none⟩))) := (HU.mod.ofMem _ (fun x hx => Or.inl (List.mem_cons_of_mem _ hx))).setCell (p := ⟨hb, 1, none⟩) (Or.inl (by simp)) _
  generalize w5.setCell ⟨hb, 1, none⟩ (.pointer (some ⟨tb', 0, none⟩)) = w6 at *
  have hfo : ∀ x ∈ a_foot ab av', x ∈ hb :: a_foot ab av ∨ w4.heap.size ≤ x := fun x hx => by
    rcases a_mem_foot.1 hx with rfl | hx
    · exact Or.inl (List.mem_cons_of_mem _ (a_mem_foot.2 (Or.inl rfl)))
    · rcases HU.nx x hx with h | h
      · exact Or.inl (List.mem_cons_of_mem _ (a_mem_foot.2 (Or.inr h)))
      · exact Or.inr h
  have hH6 : Hp w6 B hb ab tb' m av' (l ++ mixW (putW NS g MT l.length) l.length 0) tv' tq' NS trv ptv n := by
    rw [mix_zero, hTl]
    exact HP
  have hlw : ∀ w', a_Mod (a_foot ab av') w6 w' → a_Mod (hb :: a_foot ab av) w4 w' := fun w' h => hm65.trans h hfo
  have hal : ∀ w', a_Mod (a_foot ab av') w6 w' → a_Mod (hb :: a_foot ab av) W w' := fun w' h => hm6.trans h (fun x hx => by
    rcases hfo x hx with h1 | h1
    · exact Or.inl h1
    · exact Or.inr (by omega))
  have hri4 : ∀ w', a_Mod (hb :: a_foot ab av) w4 w' → Ri w' (.slice mo MT.length mc) MT := fun w' h => by
    have ho4 := row_keep Ho1 (fun k hk => (Below.next Hb2 Hb4).block k (Ho1.lt k hk).2)
    refine ri_own (row_keep ho4 (fun k hk => h.block k (ho4.lt k hk).2 (fun hx => ?_)))
    have h1 := (Ho1.lt k hk).1
    rcases List.mem_cons.1 hx with rfl | hx
    · omega
    · have := z1 _ hx
      omega
  refine (lay_ok (putW NS g MT l.length) hH6 (fun w' h => HGk w' (hal w' h)) (fun w' h => hri4 w' (hlw w' h)) Hg Hok.rng Hok.nodup Hro Har rfl HTr).mono ?_
  rintro e w7 ⟨⟨ao, c, rfl, ho⟩, hp, hm⟩
  exact ⟨ao, c, rfl, own_base ho (by have := hm6.size; omega), hp, hal _ hm, hnx⟩
theorem hp_named (H : Hp w1 B hb ab tb m av l tv tq ns trv ptv n) (hW : Wb w1 wc B bx tb tv tq ns' tb' tv' tq') (hb4 : Below wc.heap.size wc w4) (hu : a_Upd 159 w4 w5 B ab m av l' av') :
    Hp (w5.setCell ⟨hb, 1, none⟩ (.pointer (some ⟨tb', 0, none⟩))) B hb ab tb' m av' l' tv' tq' ns' trv ptv n ∧ w5.cell? ⟨bx, 0, none⟩ = some (.pointer (some ⟨tb', 0, none⟩)) ∧ w5.cell? ⟨hb, 1, none⟩ = some (.pointer (some ⟨tb, 0, none⟩)) ∧ w5.frozen? ⟨hb, 1, none⟩ = false ∧ bx < w5.heap.size := by
  have hb14 := Below.next hW.b hb4
  have H4 := H.below hb14
  obtain ⟨z0, z1, z2⟩ := H.ltz
  have h5 := H4.words hu
  have hbx4 := (hb4.block _ (lt_of_block hW.x)).trans hW.x
  have hbx : w5.heap[bx]? = some (.cells #[.pointer (some ⟨tb', 0, none⟩)] 76) := (hu.mod.block _ (lt_of_block hbx4) (fun hx => by have := z1 _ hx; have := hW.f; omega)).trans hbx4
  have hof : ∀ k ∈ n_foot tb' tv' tq', k ≠ hb ∧ k ∉ a_foot ab av := fun k hk => by
    rcases hW.o with ⟨rfl, rfl, rfl⟩ | h
    · exact ⟨fun e => H.self.2 (e ▸ hk), fun hx => (H.apart hx).2 hk⟩
    · have := h k hk
      exact ⟨by omega, fun hx => by have := z1 _ hx; omega⟩
  have hT5 : Tb w5 B tb' tv' tq' ns' := (hW.t.below hb4).keep (mod_an hu.mod) (fun k hk hf => (hof k hf).2 hk)
  have hm : a_Mod [hb] w5 (w5.setCell ⟨hb, 1, none⟩ (.pointer (some ⟨tb', 0, none⟩))) := (a_Mod.refl [hb] w5).setCell (p := ⟨hb, 1, none⟩) (Or.inl (by simp)) _
  refine ⟨⟨heap_setCell_same w5 hb 1 _ _ _ h5.blk, h5.base, h5.ar.keep hm (fun k hk => by
    have e : k = hb := by simpa using hk
    rw [e]; exact h5.self.1), hT5.keep (mod_an hm) (fun k hk hf => by
    have e : k = hb := by simpa using hk
    exact (hof k hf).1 e)⟩, by simp [World.cell?, hbx], h5.cells.1.2.1, by simp [World.frozen?, h5.blk], lt_of_block hbx⟩
end
section
variable {W : World} {B hb ab tb : Nat} {m : Int} {av : Value} {l : List Int} {tv : Value} {tq : Nat} {ns : List ByteArray} {trv ptv : Value} {n : Int}
set_option maxHeartbeats 16000000 in
theorem put_okG {nv rv : Value} {g : Gf} (hH : Hp W B hb ab tb m av l tv tq ns trv ptv n) (hB : B ≤ W.heap.size) {avs : Nat → Value}
    (hGk : ∀ w', a_Mod (hb :: a_foot ab av) W w' → Gra w' nv rv g avs) (hS : Sized g) (hck : one (chk g) = [])
    (hro : (l.length + wantJ g (metF g) (metF g).length : Int) ≤ m) (hna : (wthJ ns g (metF g) (metF g).length).length ≤ 1024)
    (hTr : ∀ c, c < (putW (wthJ ns g (metF g) (metF g).length) g (metF g) l.length).length → 0 ≤ (putW (wthJ ns g (metF g) (metF g).length) g (metF g) l.length).getD c 0 ∧ (putW (wthJ ns g (metF g) (metF g).length) g (metF g) l.length).getD c 0 ≤ 18446744073709551615 ∧ mayB ((putW (wthJ ns g (metF g) (metF g).length) g (metF g) l.length).getD c 0) (l.length + (putW (wthJ ns g (metF g) (metF g).length) g (metF g) l.length).length) = true) :
    Calls Tryz.prog 27 #[.pointer (some ⟨hb, 0, none⟩), .agg #[nv, rv]] W fun e w' => ∃ ao c av' tb' tv' tq', e = .returned (.tuple #[.slice ao g.roots.length c, .nilIface]) ∧ w'.ownsRow W.heap.size 3 1 (.slice ao g.roots.length c) g.roots.length (((List.range g.roots.length).map (fun i => ((l.length + i : Nat) : Int))).map (Value.int .i64)) ∧ Hp w' B hb ab tb' m av' (l ++ putW (wthJ ns g (metF g) (metF g).length) g (metF g) l.length) tv' tq' (wthJ ns g (metF g) (metF g).length) trv ptv n ∧ a_Mod (hb :: a_foot ab av) W w' ∧ a_Nx W av av' ∧ ((tb' = tb ∧ tv' = tv ∧ tq' = tq) ∨ ∀ k ∈ n_foot tb' tv' tq', W.heap.size ≤ k) := by
  have hg := chk_good hck
  have hok := met_ok hg
  have hml := hok.le
  have hN : g.nodes.length ≤ 4096 := hg.nodes
  have hGr : ∀ w', a_Mod (hb :: a_foot ab av) W w' → Gr w' nv rv g := fun w' h => (hGk w' h).gr
  have hb0 := below_alloc W (.cells #[nv, rv] 25)
  have hre := hid (reach_good (hGr _ (a_Mod.ofBelow hb0)) hS hck)
  have HGk := hid hGk
  have HGr := hid hGr
  have HH := hid hH
  have Hg := hid hg
  have Hro := hid (met_root hg)
  have Har := hid (met_arg hg)
  have Hok := hid hok
  have HTr := hid hTr
  obtain ⟨na, nc, rfl, _⟩ := (hGk W (a_Mod.refl _ _)).1
  obtain ⟨ra, rc, rfl, _⟩ := (hGk W (a_Mod.refl _ _)).2
  have hx0 := hid (heap_alloc_new W (.cells #[.slice na g.nodes.length nc, .slice ra g.roots.length rc] 25))
  have Hb0 := hid hb0
  obtain ⟨MT, hMT⟩ : ∃ MT, MT = metF g := ⟨_, rfl⟩
  rw [← hMT] at hre Hro Har Hok HTr hml hna hro
  rw [← hMT]
  obtain ⟨NS, hNS⟩ : ∃ NS, NS = wthJ ns g MT MT.length := ⟨_, rfl⟩
  rw [← hNS] at HTr
  rw [← hNS]
  replace hNS := hid hNS
  replace hMT := hid hMT
  clear hg hok hGr hGk hH hTr hb0 hS hck
  go_enter Tryz.func27, Tryz.ntmps27
  go_wp2_with (go_at_call 56; refine hre.out.mono ?_; rintro e w1 ⟨⟨mo, mc, rfl, ho1⟩, hb1⟩; have Hb1 := hid (Below.next Hb0.out hb1); have Ho1 := hid ho1; have Hx1 := hid ((hb1.block _ (by simp)).trans hx0.out); clear ho1 hb1)
  obtain ⟨⟨x0, x1⟩, _⟩ := cblk2 Hx1.out
  have HH1 := hid (HH.out.below Hb1.out)
  obtain ⟨⟨h0, h1, _⟩, zh⟩ := HH1.out.cells
  have zx := lt_of_block Hx1.out
  have hri : Hid (Ri w1 (.slice mo MT.length mc) MT) := ri_own Ho1.out
  have hwi := hid (fun wq (hbq : Below w1.heap.size w1 wq) => with_okG (HH1.out.tb.below hbq) (by have := Hb1.out.size; have := hbq.size; omega) (HGr.out wq (a_Mod.ofBelow (Below.next Hb1.out hbq))) Hg.out (hri.out.below hbq) Hok.out.rng (by omega) hna)
  rw [← hNS.out] at hwi
  have hBz : B ≤ w1.heap.size := by have := Hb1.out.size; omega
  go_cut [8, 7] from 24 to 32 (fun s8 s7 wc => ∃ bx tb' tv' tq', s8 = .pointer (some ⟨bx, 0, none⟩) ∧ s7 = .nilIface ∧ Hid (Wb w1 wc B bx tb tv tq NS tb' tv' tq'))
  case first =>
    go_region_held3 (fun w' => w'.cell? ⟨hb, 1, none⟩ = some (.pointer (some ⟨tb, 0, none⟩)) ∧ w'.cell? ⟨W.heap.size, 0, none⟩ = some (.slice na g.nodes.length nc) ∧ w'.cell? ⟨W.heap.size, 1, none⟩ = some (.slice ra g.roots.length rc)) (first | exact ⟨h1, x0, x1⟩ | exact ⟨(set_far _ _ (by omega)).trans h1, (set_far _ _ (by omega)).trans x0, (set_far _ _ (by omega)).trans x1⟩ | go_keep)
      (first
        | (go_at_call 57; refine (hwi.out _ ?_).mono ?_; exact (Below.refl _ _).drew; rintro e w3 ⟨⟨tb', tv', tq', rfl, ht⟩, hb3⟩; have HE := hid (wb_call HH1.out.tb hBz (Below.refl _ _).drew hb3 ht); have HB5 := hid (Below.next (Below.refl _ _).drew hb3); clear ht; replace h1 := (HB5.out.cell (p := ⟨hb, 1, none⟩) zh).trans h1; replace x0 := (HB5.out.cell (p := ⟨W.heap.size, 0, none⟩) zx).trans x0; replace x1 := (HB5.out.cell (p := ⟨W.heap.size, 1, none⟩) zx).trans x1; clear hb3)
        | (go_at_call 57; refine (hwi.out _ ?_).mono ?_; exact (below_alloc w1 _).drew; rintro e w3 ⟨⟨tb', tv', tq', rfl, ht⟩, hb3⟩; have HE := hid (wb_box HH1.out.tb hBz (below_alloc w1 _).drew (heap_alloc_new w1 _) (Nat.le_refl _) hb3 ht); obtain ⟨bx3, bx4, bx5⟩ := box_cell hb3; have HB5 := hid (Below.next (below_alloc w1 _).drew hb3); clear ht; replace h1 := (HB5.out.cell (p := ⟨hb, 1, none⟩) zh).trans h1; replace x0 := (HB5.out.cell (p := ⟨W.heap.size, 0, none⟩) zx).trans x0; replace x1 := (HB5.out.cell (p := ⟨W.heap.size, 1, none⟩) zx).trans x1; clear hb3))
    all_goals go_wp2_with fail
    all_goals go_meet
    all_goals exact ⟨_, tb', tv', tq', rfl, rfl, HE⟩
  case rest =>
    obtain ⟨bx, tb', tv', tq', rfl, rfl, hW⟩ := hcut
    have Hbw := hid (Below.next Hb1.out hW.out.b)
    obtain ⟨⟨y0, y1⟩, _⟩ := cblk2 ((hW.out.b.block _ zx).trans Hx1.out)
    have zy := lt_of_block ((hW.out.b.block _ zx).trans Hx1.out)
    obtain ⟨⟨k0, _⟩, zk⟩ := (HH1.out.below hW.out.b).cells
    have hric := hid (hri.out.below hW.out.b)
    have hwa := hid (wanted_any (HGr.out wc (a_Mod.ofBelow Hbw.out)) Hg.out hric.out Hok.out.rng (by omega))
    have hwle := want_le Hg.out (met := MT) MT.length
    have hrr := want_root (g := g) (met := MT) MT.length
    have hrl : g.roots.length ≤ 4096 := Hg.out.roots
    have HHc := hid (HH1.out.below hW.out.b)
    have hTl : Hid ((putW NS g MT l.length).length = wantJ g MT MT.length) := putW_len
    by_cases hc0 : wantJ g MT MT.length = 0
    · have hr0 : g.roots.length = 0 := by omega
      have hT0 : putW NS g MT l.length = [] := List.eq_nil_of_length_eq_zero (by rw [hTl.out]; exact hc0)
      have hM0 : NS = ns := by
        rw [hNS.out, hMT.out, met_none (List.eq_nil_of_length_eq_zero hr0)]
        rfl
      have HF : Hid (Hp wc B hb ab tb m av (l ++ putW NS g MT l.length) tv tq NS trv ptv n) := show Hp _ _ _ _ _ _ _ _ _ _ _ _ _ _ by
        rw [hT0, hM0, List.append_nil]
        exact HHc.out
      rw [hc0] at hwa
      have Hr0 := hid hr0
      clear hro hna hwle hrr hr0 hT0 hM0 hTl hc0
      go_wp2_with (go_at_call 58; refine hwa.out.mono ?_; rintro e w4 ⟨rfl, hb4⟩; have Hb4 := hid hb4; clear hb4)
      go_ret2
      exact ⟨none, 0, av, tb, tv, tq, by rw [Hr0.out]; rfl, by rw [Hr0.out]; exact World.ownsRow_nil _ _ _ _, HF.out.below Hb4.out, a_Mod.ofBelow (Below.next Hbw.out Hb4.out), a_Nx.refl _ _, Or.inl ⟨rfl, rfl, rfl⟩⟩
    · obtain ⟨CT, hCT⟩ : ∃ CT, CT = wantJ g MT MT.length := ⟨_, rfl⟩
      rw [← hCT] at hwa hc0 hro hwle hrr hTl
      have hci : ¬ (CT : Int) = 0 := by omega
      have hal := hid (fun w4 (hb4 : Below wc.heap.size wc w4) => alloc_ok (HHc.out.below hb4).ar (by have := hb4.size; have := hW.out.b.size; omega) CT (by omega) (by omega))
      clear hro hna hCT
      have d0 : ((CT : Int) == 0) = false := by simpa using hci
      have ne0 : W.heap.size ≠ hb := by have := HH.out.ltz.1; omega
      have ne1 : hb ≠ W.heap.size := by omega
      have ne2 : bx ≠ hb := by have := HH.out.ltz.1; have := hW.out.f; have := Hb1.out.size; omega
      go_wp2_with (first
        | (go_at_call 58; refine hwa.out.mono ?_; rintro e w4 ⟨rfl, hb4⟩; have Hb4 := hid hb4; obtain ⟨⟨j0, _⟩, zj⟩ := (HHc.out.below hb4).cells; clear hb4)
        | (go_at_call 59; refine (hal.out _ Hb4.out).mono ?_; rintro e w5 ⟨av', rfl, hu⟩; have HU := hid hu; obtain ⟨HP6, bc5, j1, jf, jz⟩ := hp_named HH1.out hW.out Hb4.out hu; have HP := hid HP6; have HX5 := hid ((hu.mod.block _ (Nat.lt_of_lt_of_le zy Hb4.out.size) (fun hx => by have := HH.out.ltz.2.1 _ hx; omega)).trans ((Hb4.out.block _ zy).trans ((hW.out.b.block _ zx).trans Hx1.out))); obtain ⟨⟨q0, q1⟩, _⟩ := cblk2 HX5.out; have zq := lt_of_block HX5.out; clear hu HP6))
      have hlay := hid (put_lay HH.out HGk.out Hbw.out Hb4.out HU.out HP.out Ho1.out Hb1.out hW.out.b (by simp) Hg.out Hok.out Hro.out Har.out hTl.out HTr.out)
      go_wp2_with (go_at_call 60; refine hlay.out.mono ?_; rintro e w7 ⟨ro, rc', rfl, hro7, hp7, hm7, hn7⟩; have H7 := hid (And.intro hro7 (And.intro hp7 (And.intro hm7 hn7))); clear hro7 hp7 hm7 hn7)
      go_ret2
      refine ⟨ro, rc', av', tb', tv', tq', rfl, H7.out.1, H7.out.2.1, H7.out.2.2.1, H7.out.2.2.2, ?_⟩
      rcases hW.out.o with h | h
      · exact Or.inl h
      · exact Or.inr (fun k hk => Nat.le_trans Hb1.out.size (h k hk))
end
end Go.Proofs.YtlibjdilicfcdaaGreatDoor
