/- What a heap's trail and its points tell, as plain data: words that were written over, and how they come back. -/
import Derived.Test.YtipacdagaalccaaGreatDoorSD25Z
import Derived.Test.YtipacdagaalccaaGreatDoorSD22Z
import Derived.Test.YtipacdagaalccaaGreatDoorSD03Z
import Derived.Test.YtipacdagaalccaaGreatDoorSD26Z
namespace Go.Proofs.YtipacdagaalccaaGreatDoor
set_option maxRecDepth 100000
open Go.RowKit
abbrev Te := Nat × Int
def undW (l : List Int) (tr : List Te) : List Int := tr.foldr (fun e a => a.set e.1 e.2) l
theorem undW_app (l : List Int) (a b : List Te) : undW l (a ++ b) = undW (undW l b) a := List.foldr_append ..
theorem undW_snoc (l : List Int) (a : List Te) (e : Te) : undW l (a ++ [e]) = undW (l.set e.1 e.2) a := by rw [undW_app]; rfl
theorem undW_len (l : List Int) : ∀ tr, (undW l tr).length = l.length
  | [] => rfl
  | e :: r => by
    show ((undW l r).set e.1 e.2).length = _
    rw [List.length_set, undW_len l r]
theorem undW_take (l : List Int) (K : Nat) : ∀ tr, (undW l tr).take K = undW (l.take K) tr
  | [] => rfl
  | e :: r => by
    show ((undW l r).set e.1 e.2).take K = (undW (l.take K) r).set e.1 e.2
    rw [← undW_take l K r, List.take_set]
abbrev Pe := Nat × Nat
def seesB (pt : List Pe) (k : Nat) : Bool := match pt.getLast? with
  | some p => decide (k < p.2)
  | none => false
def trW (l : List Int) (tr : List Te) (pt : List Pe) (k : Nat) : List Te := if seesB pt k = true then tr ++ [(k, l.getD k 0)] else tr
def atP (l : List Int) (tr : List Te) (p : Pe) : List Int := undW (l.take p.2) (tr.drop p.1)
def SndN (l : List Int) (N : Nat) : Prop := (∃ V, Snd l V) ∧ NsB l N
structure SI (l : List Int) (N : Nat) (tr : List Te) (pt : List Pe) : Prop where
  now : SndN l N
  ent : ∀ e ∈ tr, e.1 < l.length ∧ (0 ≤ e.2 ∧ e.2 ≤ 18446744073709551615) ∧ mayB e.2 l.length = true
  len : ∀ p ∈ pt, p.1 ≤ tr.length ∧ p.2 ≤ l.length
  old : ∀ p ∈ pt, ∀ e ∈ tr.take p.1, e.1 < p.2 ∧ mayB e.2 p.2 = true
  was : ∀ p ∈ pt, SndN (atP l tr p) N
  mono : pt.Pairwise (fun p q => p.1 ≤ q.1 ∧ p.2 ≤ q.2)
theorem SI.last {l : List Int} {N : Nat} {tr : List Te} {pt : List Pe} (h : SI l N tr pt) {p q : Pe} (hp : p ∈ pt) (hq : pt.getLast? = some q) : p.1 ≤ q.1 ∧ p.2 ≤ q.2 := by
  obtain ⟨i, hi, e⟩ := List.getElem_of_mem hp
  have hl : q = pt[pt.length - 1]'(by omega) := by
    rw [List.getLast?_eq_getElem?] at hq
    rw [List.getElem?_eq_getElem (by omega)] at hq
    exact (Option.some.inj hq).symm
  rcases Nat.lt_or_ge i (pt.length - 1) with h1 | h1
  · have := List.pairwise_iff_getElem.1 h.mono i (pt.length - 1) hi (by omega) h1
    rw [e, ← hl] at this
    exact this
  · have e2 : i = pt.length - 1 := by omega
    subst e2
    rw [← e, hl]
    exact ⟨Nat.le_refl _, Nat.le_refl _⟩
theorem atP_write {l : List Int} {N : Nat} {tr : List Te} {pt : List Pe} (h : SI l N tr pt) {p : Pe} (hp : p ∈ pt) {k : Nat} (hk : k < l.length) (x : Int) : atP (l.set k x) (trW l tr pt k) p = atP l tr p := by
  unfold atP trW
  have hl := h.len p hp
  split
  · rename_i hs
    rw [List.drop_append_of_le_length hl.1, undW_snoc, List.take_set]
    congr 1
    by_cases hkp : k < p.2
    · rw [List.set_set]
      apply List.ext_getElem?
      intro i
      rw [List.getElem?_set]
      split
      · rename_i e
        subst e
        have e1 : k < (l.take p.2).length := by simp; omega
        rw [if_pos e1, List.getElem?_take, if_pos hkp]
        simp [List.getD, hk]
      · rfl
    · rw [List.set_eq_of_length_le (by simp; omega), List.set_eq_of_length_le (by simp; omega)]
  · rename_i hs
    have hkp : p.2 ≤ k := by
      cases hq : pt.getLast? with
      | none => rw [List.getLast?_eq_none_iff] at hq; subst hq; cases hp
      | some q =>
        have h1 := h.last hp hq
        have h2 : ¬ k < q.2 := fun h3 => hs (by unfold seesB; rw [hq]; exact decide_eq_true h3)
        omega
    rw [List.take_set, List.set_eq_of_length_le (by simp; omega)]
theorem snd_may {l : List Int} {V : Nat → Bool} (h : Snd l V) {k : Nat} (hk : k < l.length) : (0 ≤ l.getD k 0 ∧ l.getD k 0 ≤ 18446744073709551615) ∧ mayB (l.getD k 0) l.length = true := by
  have hg := h.good k hk
  have hr := h.rng (l.getD k 0) (by simp [List.getD, hk])
  refine ⟨hr, ?_⟩
  unfold mayB
  have hg' : goodB (l.getD k 0) = true := hg
  rw [hg', Bool.true_and]
  by_cases ht : tellsB (l.getD k 0) = true
  · have h3 : l.getD k 0 % 8 = 0 ∨ l.getD k 0 % 8 = 3 ∨ l.getD k 0 % 8 = 5 := by simpa [tellsB] using ht
    have hv := val_place hg' h3
    have : vlN l k < l.length := by
      rcases h3 with e | e | e
      · exact (h.ref k hk e).1
      · exact (h.str k hk e).1
      · exact Nat.lt_trans (h.fwd k hk e).1 hk
    have e2 : vlN l k = (valOf (l.getD k 0)).toNat := rfl
    rw [Bool.or_eq_true]
    exact Or.inr (decide_eq_true (by omega))
  · simp only [Bool.not_eq_true] at ht
    rw [ht]
    rfl
theorem may_mono {x a b : Int} (h : mayB x a = true) (hab : a ≤ b) : mayB x b = true := by
  unfold mayB at *
  rw [Bool.and_eq_true, Bool.or_eq_true] at *
  exact ⟨h.1, h.2.imp id (fun h => decide_eq_true (by have := of_decide_eq_true h; omega))⟩
theorem SI.write {l : List Int} {N : Nat} {tr : List Te} {pt : List Pe} (h : SI l N tr pt) {k : Nat} (hk : k < l.length) {x : Int} (hn : SndN (l.set k x) N) : SI (l.set k x) N (trW l tr pt k) pt := by
  obtain ⟨V, hV⟩ := h.now.1
  have hm := snd_may hV hk
  have hlt : tr.length ≤ (trW l tr pt k).length := by unfold trW; split <;> simp
  refine ⟨hn, fun e he => ?_, fun p hp => ⟨Nat.le_trans (h.len p hp).1 hlt, by rw [List.length_set]; exact (h.len p hp).2⟩, fun p hp e he => ?_, fun p hp => by rw [atP_write h hp hk]; exact h.was p hp, h.mono⟩
  · rw [List.length_set]
    unfold trW at he
    split at he
    · rcases List.mem_append.1 he with he | he
      · exact h.ent e he
      · have e2 : e = (k, l.getD k 0) := by simpa using he
        subst e2
        exact ⟨hk, hm.1, hm.2⟩
    · exact h.ent e he
  · refine h.old p hp e ?_
    unfold trW at he
    split at he
    · rwa [List.take_append_of_le_length (h.len p hp).1] at he
    · exact he
theorem nsb_more {l : List Int} {N N' : Nat} (h : NsB l N) (hle : N ≤ N') : NsB l N' := ⟨fun k hk ht => by have := h.1 k hk ht; omega, fun k hk ht => by have := h.2 k hk ht; omega⟩
theorem atP_put {l m : List Int} {tr : List Te} {p : Pe} (hp : p.2 ≤ l.length) : atP (l ++ m) tr p = atP l tr p := by
  unfold atP
  rw [List.take_append_of_le_length hp]
theorem SI.put {l m : List Int} {N N' : Nat} {tr : List Te} {pt : List Pe} (h : SI l N tr pt) (hN : N ≤ N') (hn : SndN (l ++ m) N') : SI (l ++ m) N' tr pt := by
  have hl : l.length ≤ (l ++ m).length := by simp
  refine ⟨hn, fun e he => ?_, fun p hp => ⟨(h.len p hp).1, Nat.le_trans (h.len p hp).2 hl⟩, h.old, fun p hp => ?_, h.mono⟩
  · obtain ⟨h1, h2, h3⟩ := h.ent e he
    exact ⟨by omega, h2, may_mono h3 (by omega)⟩
  · rw [atP_put (h.len p hp).2]
    exact ⟨(h.was p hp).1, nsb_more (h.was p hp).2 hN⟩
theorem SI.point {l : List Int} {N : Nat} {tr : List Te} {pt : List Pe} (h : SI l N tr pt) : SI l N tr (pt ++ [(tr.length, l.length)]) := by
  have hc : ∀ p ∈ pt ++ [(tr.length, l.length)], p ∈ pt ∨ p = (tr.length, l.length) := fun p hp => by
    rcases List.mem_append.1 hp with hp | hp
    · exact Or.inl hp
    · exact Or.inr (by simpa using hp)
  refine ⟨h.now, h.ent, fun p hp => ?_, fun p hp e he => ?_, fun p hp => ?_, ?_⟩
  · rcases hc p hp with hp | rfl
    · exact h.len p hp
    · exact ⟨Nat.le_refl _, Nat.le_refl _⟩
  · rcases hc p hp with hp | rfl
    · exact h.old p hp e he
    · have := h.ent e (List.mem_of_mem_take he)
      exact ⟨this.1, this.2.2⟩
  · rcases hc p hp with hp | rfl
    · exact h.was p hp
    · unfold atP
      rw [List.take_length, List.drop_length]
      exact h.now
  · rw [List.pairwise_append]
    refine ⟨h.mono, List.pairwise_singleton _ _, fun p hp q hq => ?_⟩
    have e : q = (tr.length, l.length) := by simpa using hq
    subst e
    exact h.len p hp
theorem SI.release {l : List Int} {N : Nat} {tr : List Te} {pt : List Pe} (h : SI l N tr pt) (n : Nat) : SI l N tr (pt.take n) :=
  ⟨h.now, h.ent, fun p hp => h.len p (List.mem_of_mem_take hp), fun p hp => h.old p (List.mem_of_mem_take hp), fun p hp => h.was p (List.mem_of_mem_take hp), h.mono.sublist (List.take_sublist _ _)⟩
theorem atP_undo {l : List Int} {tr : List Te} {p q : Pe} (h1 : p.1 ≤ q.1) (h2 : p.2 ≤ q.2) (hq1 : q.1 ≤ tr.length) : atP (atP l tr q) (tr.take q.1) p = atP l tr p := by
  unfold atP
  have e : tr.drop p.1 = (tr.take q.1).drop p.1 ++ tr.drop q.1 := by
    rw [← List.drop_append_of_le_length (by simp; omega), List.take_append_drop]
  rw [e, undW_app, undW_take, List.take_take, Nat.min_eq_left h2]
theorem SI.undo {l : List Int} {N : Nat} {tr : List Te} {pt : List Pe} (h : SI l N tr pt) (n : Nat) (hn : n < pt.length) : SI (atP l tr pt[n]) N (tr.take pt[n].1) (pt.take (n + 1)) := by
  have hm : pt[n] ∈ pt := List.getElem_mem hn
  have hl := h.len _ hm
  have hlen : (atP l tr pt[n]).length = pt[n].2 := by
    unfold atP
    rw [undW_len, List.length_take]
    omega
  have hle : ∀ p ∈ pt.take (n + 1), p.1 ≤ pt[n].1 ∧ p.2 ≤ pt[n].2 := fun p hp => by
    obtain ⟨i, hi, e⟩ := List.getElem_of_mem hp
    rw [List.getElem_take] at e
    have hi2 : i < pt.length ∧ i ≤ n := by simp at hi; omega
    rcases Nat.lt_or_ge i n with h1 | h1
    · have := List.pairwise_iff_getElem.1 h.mono i n hi2.1 hn h1
      rw [e] at this
      exact this
    · have e2 : i = n := by omega
      subst e2
      rw [← e]
      exact ⟨Nat.le_refl _, Nat.le_refl _⟩
  refine ⟨h.was _ hm, fun e he => ?_, fun p hp => ?_, fun p hp e he => ?_, fun p hp => ?_, h.mono.sublist (List.take_sublist _ _)⟩
  · rw [hlen]
    have h1 := h.old _ hm e he
    exact ⟨h1.1, (h.ent e (List.mem_of_mem_take he)).2.1, h1.2⟩
  · rw [hlen, List.length_take]
    have := hle p hp
    exact ⟨by omega, this.2⟩
  · refine h.old p (List.mem_of_mem_take hp) e ?_
    rw [List.take_take, Nat.min_eq_left (hle p hp).1] at he
    exact he
  · rw [atP_undo (hle p hp).1 (hle p hp).2 hl.1]
    exact h.was p (List.mem_of_mem_take hp)
end Go.Proofs.YtipacdagaalccaaGreatDoor

namespace Go.Proofs.YtipacdagaalccaaGreatDoor
set_option maxRecDepth 100000
open Go.RowKit
theorem infoSv : (Tryz.prog.info? 75).map (fun i => (i.zero, i.size, i.bytes)) = some (some (.agg #[.int .i64 0, .int .u64 0]), 2, 16) := by kernel_rfl
theorem infoMk : (Tryz.prog.info? 78).map (fun i => (i.zero, i.size, i.bytes)) = some (some (.agg #[.int .i64 0, .int .i64 0, .slice none 0 0]), 3, 40) := by kernel_rfl
def svC (tr : List Te) : List Value := tr.flatMap fun e => [.int .i64 (e.1 : Int), .int .u64 e.2]
def mkC (pt : List Pe) : List Value := pt.flatMap fun p => [.int .i64 (p.1 : Int), .int .i64 (p.2 : Int), .slice none 0 0]
theorem svC_app (a b : List Te) : svC (a ++ b) = svC a ++ svC b := by simp [svC]
theorem mkC_app (a b : List Pe) : mkC (a ++ b) = mkC a ++ mkC b := by simp [mkC]
theorem svC_take : ∀ (l : List Te) (n : Nat), (svC l).take (n * 2) = svC (l.take n)
  | [], n => by simp [svC]
  | p :: r, 0 => by simp [svC]
  | p :: r, n + 1 => by
    show (_ :: _ :: svC r).take ((n + 1) * 2) = _ :: _ :: svC (r.take n)
    rw [show (n + 1) * 2 = n * 2 + 1 + 1 by omega, List.take_succ_cons, List.take_succ_cons, svC_take r n]
theorem mkC_take : ∀ (l : List Pe) (n : Nat), (mkC l).take (n * 3) = mkC (l.take n)
  | [], n => by simp [mkC]
  | p :: r, 0 => by simp [mkC]
  | p :: r, n + 1 => by
    show (_ :: _ :: _ :: mkC r).take ((n + 1) * 3) = _ :: _ :: _ :: mkC (r.take n)
    rw [show (n + 1) * 3 = n * 3 + 1 + 1 + 1 by omega, List.take_succ_cons, List.take_succ_cons, List.take_succ_cons, mkC_take r n]
theorem svC_at : ∀ (l : List Te) (j : Nat), j < l.length → (svC l)[j * 2]? = some (.int .i64 ((l.getD j (0, 0)).1 : Int)) ∧ (svC l)[j * 2 + 1]? = some (.int .u64 (l.getD j (0, 0)).2)
  | [], j, h => absurd h (Nat.not_lt_zero _)
  | p :: r, 0, _ => ⟨rfl, rfl⟩
  | p :: r, j + 1, h => by
    have := svC_at r j (by simpa using h)
    rw [show (j + 1) * 2 = j * 2 + 1 + 1 by omega]
    have e : svC (p :: r) = .int .i64 (p.1 : Int) :: .int .u64 p.2 :: svC r := rfl
    rw [e]
    simpa [List.getD] using this
theorem mkC_at : ∀ (l : List Pe) (j : Nat), j < l.length → (mkC l)[j * 3]? = some (.int .i64 ((l.getD j (0, 0)).1 : Int)) ∧ (mkC l)[j * 3 + 1]? = some (.int .i64 ((l.getD j (0, 0)).2 : Int)) ∧ (mkC l)[j * 3 + 2]? = some (.slice none 0 0)
  | [], j, h => absurd h (Nat.not_lt_zero _)
  | p :: r, 0, _ => ⟨rfl, rfl, rfl⟩
  | p :: r, j + 1, h => by
    have := mkC_at r j (by simpa using h)
    rw [show (j + 1) * 3 = j * 3 + 1 + 1 + 1 by omega]
    have e : mkC (p :: r) = .int .i64 (p.1 : Int) :: .int .i64 (p.2 : Int) :: .slice none 0 0 :: mkC r := rfl
    rw [e]
    simpa [List.getD] using this
structure Hq (w : World) (B hb ab tb : Nat) (m : Int) (av : Value) (l : List Int) (tv : Value) (tq : Nat) (ns : List ByteArray) (trv : Value) (tr : List Te) (ptv : Value) (pt : List Pe) (n : Int) : Prop where
  hp : Hp w B hb ab tb m av l tv tq ns trv ptv n
  tr : w.ownsRow B 75 2 trv tr.length (svC tr)
  pt : w.ownsRow B 78 3 ptv pt.length (mkC pt)
def qfoot (hb ab : Nat) (av trv ptv : Value) : List Nat := hb :: (a_foot ab av ++ (trv.ownBlock.toList ++ ptv.ownBlock.toList))
theorem mem_qfoot {hb ab k : Nat} {av trv ptv : Value} : k ∈ qfoot hb ab av trv ptv ↔ k = hb ∨ k ∈ a_foot ab av ∨ trv.ownBlock = some k ∨ ptv.ownBlock = some k := by simp [qfoot]
theorem own_slq {w : World} {B z : Nat} {e : TypeId} {v : Value} {n : Nat} {xs : List Value} (h : w.ownsRow B e z v n xs) : ∃ ao c, v = .slice ao n c ∧ n ≤ c ∧ c ≤ maxLen ∧ (ao = none → n = 0 ∧ c = 0) ∧ (∀ a, ao = some a → a = ⟨a.block, 0, none⟩) := by
  rcases h.2 with ⟨rfl, h0⟩ | ⟨g, cap, cur, rfl, _, _, hc, hm, _⟩
  · exact ⟨none, 0, by rw [h0], by omega, by unfold maxLen; omega, (fun _ => ⟨h0, rfl⟩), (fun a e => by cases e)⟩
  · exact ⟨_, cap, rfl, hc, hm, (fun e => by cases e), (fun a e => by cases e; rfl)⟩
theorem own_cut {w : World} {B z : Nat} {e : TypeId} {ao : Option Addr} {c n k : Nat} {xs : List Value} (h : w.ownsRow B e z (.slice ao n c) n xs) (hk : k ≤ n) : w.ownsRow B e z (.slice ao k c) k (xs.take (k * z)) := by
  have h1 := h.1
  have hkz : k * z ≤ n * z := Nat.mul_le_mul_right z hk
  refine ⟨by rw [List.length_take]; omega, ?_⟩
  rcases h.2 with ⟨e0, h0⟩ | ⟨g, cap, cur, e0, hb, hg, hc, hm, hs, ht⟩
  · injection e0 with e1 e2 e3
    subst e1 e3
    have : k = 0 := by omega
    subst this
    exact Or.inl ⟨rfl, rfl⟩
  · injection e0 with e1 e2 e3
    subst e1 e3
    refine Or.inr ⟨g, c, cur, rfl, hb, hg, by omega, hm, hs, ?_⟩
    rw [← ht, List.take_take, Nat.min_eq_left hkz]
section
variable {w w' : World} {B hb ab tb : Nat} {m : Int} {av : Value} {l : List Int} {tv : Value} {tq : Nat} {ns : List ByteArray} {trv : Value} {tr : List Te} {ptv : Value} {pt : List Pe} {n : Int}
theorem Hq.below (h : Hq w B hb ab tb m av l tv tq ns trv tr ptv pt n) (hm : Below w.heap.size w w') : Hq w' B hb ab tb m av l tv tq ns trv tr ptv pt n :=
  ⟨h.hp.below hm, row_keep h.tr (fun k hk => hm.block k (h.tr.lt k hk).2), row_keep h.pt (fun k hk => hm.block k (h.pt.lt k hk).2)⟩
theorem Hq.aty (h : Hq w B hb ab tb m av l tv tq ns trv tr ptv pt n) {k : Nat} (hk : k ∈ a_foot ab av) : ∃ cs T, w.heap[k]? = some (.cells cs T (0, 0)) ∧ (T = 111 ∨ T = 73) := by
  rcases a_mem_foot.1 hk with rfl | hk
  · exact ⟨_, _, h.hp.ar.blk, Or.inl rfl⟩
  · obtain ⟨cur, hc, _⟩ := own_block_obj h.hp.ar.own hk
    exact ⟨cur, _, hc, Or.inr rfl⟩
theorem Hq.nty (h : Hq w B hb ab tb m av l tv tq ns trv tr ptv pt n) {k : Nat} (hk : k ∈ n_foot tb tv tq) : (∃ cs T, w.heap[k]? = some (.cells cs T (0, 0)) ∧ (T = 114 ∨ T = 9)) ∨ (∀ cs T x, w.heap[k]? ≠ some (.cells cs T x)) := by
  rcases n_mem_foot.1 hk with e | e | e
  · subst e
    exact Or.inl ⟨_, _, h.hp.tb.blk, Or.inl rfl⟩
  · subst e
    obtain ⟨D, ⟨es, clock, hq, _⟩, _⟩ := h.hp.tb.map
    refine Or.inr (fun cs T x hx => ?_)
    rw [hq] at hx
    simp at hx
  · obtain ⟨cur, hc, _⟩ := own_block_obj h.hp.tb.own e
    exact Or.inl ⟨cur, _, hc, Or.inr rfl⟩
theorem Hq.apart (h : Hq w B hb ab tb m av l tv tq ns trv tr ptv pt n) {k : Nat} (hk : trv.ownBlock = some k ∨ ptv.ownBlock = some k) : k ≠ hb ∧ k ∉ a_foot ab av ∧ k ∉ n_foot tb tv tq ∧ ¬ (trv.ownBlock = some k ∧ ptv.ownBlock = some k) := by
  have hT : ∃ cs T, w.heap[k]? = some (.cells cs T (0, 0)) ∧ (T = 75 ∨ T = 78) := by
    rcases hk with hk | hk
    · obtain ⟨cur, hc, _⟩ := own_block_obj h.tr hk
      exact ⟨cur, _, hc, Or.inl rfl⟩
    · obtain ⟨cur, hc, _⟩ := own_block_obj h.pt hk
      exact ⟨cur, _, hc, Or.inr rfl⟩
  obtain ⟨cs, T, hw, hTT⟩ := hT
  refine ⟨fun e => ?_, fun hf => ?_, fun hf => ?_, fun ⟨h1, h2⟩ => ?_⟩
  · subst e
    exact obj_ne hw h.hp.blk (by rcases hTT with rfl | rfl <;> decide) rfl
  · obtain ⟨cs', T', hw', hTT'⟩ := h.aty hf
    exact obj_ne hw hw' (by rcases hTT with rfl | rfl <;> rcases hTT' with rfl | rfl <;> decide) rfl
  · rcases h.nty hf with ⟨cs', T', hw', hTT'⟩ | hno
    · exact obj_ne hw hw' (by rcases hTT with rfl | rfl <;> rcases hTT' with rfl | rfl <;> decide) rfl
    · exact hno _ _ _ hw
  · obtain ⟨c1, e1, _⟩ := own_block_obj h.tr h1
    obtain ⟨c2, e2, _⟩ := own_block_obj h.pt h2
    exact obj_ne e1 e2 (by decide) rfl
theorem Hq.rows (h : Hq w B hb ab tb m av l tv tq ns trv tr ptv pt n) {ks : List Nat} (hm : a_Mod ks w w') (hk : ∀ k ∈ ks, ¬ (trv.ownBlock = some k ∨ ptv.ownBlock = some k)) : w'.ownsRow B 75 2 trv tr.length (svC tr) ∧ w'.ownsRow B 78 3 ptv pt.length (mkC pt) :=
  ⟨row_keep h.tr (fun k e => hm.block k (h.tr.lt k e).2 (fun hx => hk k hx (Or.inl e))), row_keep h.pt (fun k e => hm.block k (h.pt.lt k e).2 (fun hx => hk k hx (Or.inr e)))⟩
theorem Hq.words {av' : Value} {l' : List Int} (h : Hq w B hb ab tb m av l tv tq ns trv tr ptv pt n) (u : a_Upd 111 w w' B ab m av l' av') : Hq w' B hb ab tb m av' l' tv tq ns trv tr ptv pt n := by
  obtain ⟨r1, r2⟩ := h.rows u.mod (fun k hk hx => (h.apart hx).2.1 hk)
  exact ⟨h.hp.words u, r1, r2⟩
theorem Hq.own {o : Nat} {u : Value} (h : Hq w B hb ab tb m av l tv tq ns trv tr ptv pt n) : w.heap.size = (w.setCell ⟨hb, o, none⟩ u).heap.size ∧ Ar 111 (w.setCell ⟨hb, o, none⟩ u) B ab m av l ∧ Tb (w.setCell ⟨hb, o, none⟩ u) B tb tv tq ns ∧ (w.setCell ⟨hb, o, none⟩ u).ownsRow B 75 2 trv tr.length (svC tr) ∧ (w.setCell ⟨hb, o, none⟩ u).ownsRow B 78 3 ptv pt.length (mkC pt) := by
  obtain ⟨h1, h2⟩ := h.hp.self
  have hm : a_Mod [hb] w (w.setCell ⟨hb, o, none⟩ u) := (a_Mod.refl [hb] w).setCell (p := ⟨hb, o, none⟩) (Or.inl (by simp)) _
  obtain ⟨r1, r2⟩ := h.rows hm (fun k hk hx => (h.apart hx).1 (by simpa using hk))
  refine ⟨by simp, h.hp.ar.keep hm (fun k hk => by
    have e : k = hb := by simpa using hk
    rw [e]; exact h1), h.hp.tb.keep (mod_an hm) (fun k hk => by
    have e : k = hb := by simpa using hk
    rw [e]; exact h2), r1, r2⟩
theorem Hq.wrote (h : Hq w B hb ab tb m av l tv tq ns trv tr ptv pt n) (n' : Int) : Hq (w.setCell ⟨hb, 4, none⟩ (.int .i64 n')) B hb ab tb m av l tv tq ns trv tr ptv pt n' := by
  obtain ⟨_, ha, ht, r1, r2⟩ := h.own (o := 4) (u := .int .i64 n')
  exact ⟨⟨heap_setCell_same w hb 4 _ _ (.int .i64 n') h.hp.blk, h.hp.base, ha, ht⟩, r1, r2⟩
theorem Hq.newtr {trv' : Value} {tr' : List Te} (h : Hq w B hb ab tb m av l tv tq ns trv tr ptv pt n) (hr : w.ownsRow B 75 2 trv' tr'.length (svC tr')) : Hq (w.setCell ⟨hb, 2, none⟩ trv') B hb ab tb m av l tv tq ns trv' tr' ptv pt n := by
  obtain ⟨_, ha, ht, _, r2⟩ := h.own (o := 2) (u := trv')
  refine ⟨⟨heap_setCell_same w hb 2 _ _ trv' h.hp.blk, h.hp.base, ha, ht⟩, row_keep hr (fun k hk => Below.heap_setCell _ _ _ _ (fun e => ?_)), r2⟩
  obtain ⟨c, e1, _⟩ := own_block_obj hr hk
  exact obj_ne e1 h.hp.blk (by decide) e
theorem Hq.newpt {ptv' : Value} {pt' : List Pe} (h : Hq w B hb ab tb m av l tv tq ns trv tr ptv pt n) (hr : w.ownsRow B 78 3 ptv' pt'.length (mkC pt')) : Hq (w.setCell ⟨hb, 3, none⟩ ptv') B hb ab tb m av l tv tq ns trv tr ptv' pt' n := by
  obtain ⟨_, ha, ht, r1, _⟩ := h.own (o := 3) (u := ptv')
  refine ⟨⟨heap_setCell_same w hb 3 _ _ ptv' h.hp.blk, h.hp.base, ha, ht⟩, r1, row_keep hr (fun k hk => Below.heap_setCell _ _ _ _ (fun e => ?_))⟩
  obtain ⟨c, e1, _⟩ := own_block_obj hr hk
  exact obj_ne e1 h.hp.blk (by decide) e
theorem Hq.grown {v : Value} (h : Hq w B hb ab tb m av l tv tq ns trv tr ptv pt n) (hv : v = trv ∨ v = ptv) (hg : w.grownBy w' v.ownBlock) : Hp w' B hb ab tb m av l tv tq ns trv ptv n ∧ a_Mod v.ownBlock.toList w w' ∧ (∀ k, k < w.heap.size → v.ownBlock ≠ some k → w'.heap[k]? = w.heap[k]?) := by
  have hb' : ∀ k, k < w.heap.size → v.ownBlock ≠ some k → w'.heap[k]? = w.heap[k]? := fun k hk hn => hg.block k hk (fun e => hn e.symm)
  have hne : ∀ k, v.ownBlock = some k → k ≠ hb ∧ k ∉ a_foot ab av ∧ k ∉ n_foot tb tv tq := fun k hk => by
    have := h.apart (k := k) (by rcases hv with rfl | rfl; exact Or.inl hk; exact Or.inr hk)
    exact ⟨this.1, this.2.1, this.2.2.1⟩
  have hm : a_Mod v.ownBlock.toList w w' := ⟨hg.os, hg.tape, hg.output, hg.size, fun k hk hn => hb' k hk (fun e => hn (by simp [e]))⟩
  refine ⟨⟨(hb' hb (lt_of_block h.hp.blk) (fun e => (hne hb e).1 rfl)).trans h.hp.blk, h.hp.base, h.hp.ar.keep hm (fun k hk => (hne k (by simpa using hk)).2.1), h.hp.tb.keep (mod_an hm) (fun k hk => (hne k (by simpa using hk)).2.2)⟩, hm, hb'⟩
end
end Go.Proofs.YtipacdagaalccaaGreatDoor

namespace Go.Proofs.YtipacdagaalccaaGreatDoor
set_option maxRecDepth 100000
open Go.RowKit
theorem cell_blk1 {w : World} {b : Nat} {u : Value} {T : TypeId} (h : w.heap[b]? = some (.cells #[u] T)) : w.cell? ⟨b, 0, none⟩ = some u := by simp [World.cell?, h]
section
variable {w : World} {B p : Nat} {m : Int} {v : Value} {l : List Int}
set_option maxHeartbeats 2000000 in
theorem alike_not (x y : Int) (w : World) (x0 : 0 ≤ x) (x1 : x ≤ 18446744073709551615) (y0 : 0 ≤ y) (y1 : y ≤ 18446744073709551615) (hn : x % 8 ≠ 3 ∨ y % 8 ≠ 3) (p : Nat) :
    Calls Tryz.prog 49 #[blkV p, .int .u64 x, .int .u64 y] w fun e w' => e = .returned (.bool false) ∧ Below w.heap.size w w' := by
  have hb := hid (below_alloc w (.cells #[.pointer (some ⟨p, 0, none⟩)] 65))
  have hx := hid (fun w => tag_any x w x0 x1)
  have hy := hid (fun w => tag_any y w y0 y1)
  by_cases h1 : x % 8 = 3
  · have h2 : (y % 8 != 3) = true := by
      rcases hn with h | h
      · exact absurd h1 h
      · simpa using h
    have h1' : (x % 8 != 3) = false := by simp [h1]
    generalize x % 8 = tx at *
    generalize y % 8 = ty at *
    clear hn h1
    have m1 : True := trivial
    go_enter Tryz.func49, Tryz.ntmps49
    go_wp2_with (first
      | (go_at_call 43; have _u := m1; refine (hx.out _).mono ?_; clear m1 _u; rintro e w6 ⟨rfl, hw⟩; replace hw := hw.symm; subst hw)
      | (go_at_call 43; refine (hy.out _).mono ?_; rintro e w6 ⟨rfl, hw⟩; replace hw := hw.symm; subst hw))
    go_ret
    exact ⟨rfl, hb.out⟩
  · have h1' : (x % 8 != 3) = true := by simpa using h1
    generalize x % 8 = tx at *
    clear hn h1
    go_enter Tryz.func49, Tryz.ntmps49
    go_wp2_with (go_at_call 43; refine (hx.out _).mono ?_; rintro e w6 ⟨rfl, hw⟩; replace hw := hw.symm; subst hw)
    go_ret
    exact ⟨rfl, hb.out⟩
set_option maxHeartbeats 2000000 in
theorem alike_str (h : Ar 111 w B p m v l) (x y : Int) (x0 : 0 ≤ x) (x1 : x ≤ 18446744073709551615) (y0 : 0 ≤ y) (y1 : y ≤ 18446744073709551615) (hx3 : x % 8 = 3) (hy3 : y % 8 = 3) (i j : Nat) (hi : i < l.length) (hj : j < l.length) (vi : valOf x = (i : Int)) (vj : valOf y = (j : Int)) :
    Calls Tryz.prog 49 #[blkV p, .int .u64 x, .int .u64 y] w fun e w' => e = .returned (.bool (wdN l i == wdN l j)) ∧ Below w.heap.size w w' := by
  have hb := hid (below_alloc w (.cells #[.pointer (some ⟨p, 0, none⟩)] 65))
  have hbx := heap_alloc_new w (.cells #[.pointer (some ⟨p, 0, none⟩)] 65)
  have d0 : (w.alloc (.cells #[.pointer (some ⟨p, 0, none⟩)] 65)).cell? ⟨w.heap.size, 0, none⟩ = some (.pointer (some ⟨p, 0, none⟩)) := cell_blk1 hbx
  have z0 := lt_of_block hbx
  have hx := hid (fun w => tag_any x w x0 x1)
  have hy := hid (fun w => tag_any y w y0 y1)
  have hvx := hid (fun w => value_any x w)
  have hvy := hid (fun w => value_any y w)
  rw [hx3] at hx
  rw [hy3] at hy
  rw [vi] at hvx
  rw [vj] at hvy
  have hwi := hid (fun w1 (hbb : Below w.heap.size w w1) => bword_ok (h.below hbb) i hi)
  have hwj := hid (fun w1 (hbb : Below w.heap.size w w1) => bword_ok (h.below hbb) j hj)
  have ei : l.getD i 0 = wdN l i := rfl
  have ej : l.getD j 0 = wdN l j := rfl
  rw [ei] at hwi
  rw [ej] at hwj
  generalize wdN l i = X at *
  generalize wdN l j = Y at *
  have m1 : True := trivial
  have m2 : True := trivial
  have m3 : True := trivial
  have HB := hid hb.out
  clear h hi hj vi vj hx3 hy3 ei ej hb
  go_enter Tryz.func49, Tryz.ntmps49
  go_wp2_with (first
    | (go_at_call 43; have _u := m1; refine (hx.out _).mono ?_; clear m1 _u; rintro e w6 ⟨rfl, hw⟩; replace hw := hw.symm; subst hw)
    | (go_at_call 43; refine (hy.out _).mono ?_; rintro e w6 ⟨rfl, hw⟩; replace hw := hw.symm; subst hw))
  have HX := hid hbx
  clear hbx
  go_region_held3 (fun w' => w'.cell? ⟨w.heap.size, 0, none⟩ = some (.pointer (some ⟨p, 0, none⟩))) (first | exact d0 | go_keep)
    (first
      | (go_at_call_of 44 (Value.int IntKind.u64 x); refine (hvx.out _).mono ?_; rintro e w6 ⟨rfl, hw⟩; replace hw := hw.symm; subst hw)
      | (go_at_call_of 44 (Value.int IntKind.u64 y); refine (hvy.out _).mono ?_; rintro e w6 ⟨rfl, hw⟩; replace hw := hw.symm; subst hw)
      | (go_at_call_of 72 (Value.int IntKind.i64 (i : Int)); refine (hwi.out _ ?_).mono ?_; (first | exact HB.out | exact HB.out.drew); rintro e w4 ⟨rfl, hb4⟩; replace HX := hid ((hb4.block _ (lt_of_block HX.out)).trans HX.out); replace HB := hid (Below.next (by first | exact HB.out | exact HB.out.drew) hb4); clear d0 hb4; have d0 := cell_blk1 HX.out)
      | (go_at_call_of 72 (Value.int IntKind.i64 (j : Int)); refine (hwj.out _ ?_).mono ?_; (first | exact HB.out | exact HB.out.drew); rintro e w4 ⟨rfl, hb4⟩; replace HX := hid ((hb4.block _ (lt_of_block HX.out)).trans HX.out); replace HB := hid (Below.next (by first | exact HB.out | exact HB.out.drew) hb4); clear d0 hb4; have d0 := cell_blk1 HX.out))
  all_goals go_wp2
  all_goals go_ret
  all_goals exact ⟨rfl, HB.out⟩
end
end Go.Proofs.YtipacdagaalccaaGreatDoor
