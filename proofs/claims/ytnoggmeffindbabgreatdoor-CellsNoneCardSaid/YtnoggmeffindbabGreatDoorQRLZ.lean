/- What a heap's trail and its points tell, as plain data: words that were written over, and how they come back. -/
import Derived.Test.YtnoggmeffindbabGreatDoorQRDZ
import Derived.Test.YtnoggmeffindbabGreatDoorQRAZ
import Derived.Test.YtnoggmeffindbabGreatDoorQACZ
import Derived.Test.YtnoggmeffindbabGreatDoorQRKZ
import Derived.Deep.RegionHeld3
import Derived.Deep.DeepCutAuto
namespace Go.Proofs.YtnoggmeffindbabGreatDoor
open Go.RowKit

/-- One entry of the trail: a place, and the word that stood there. -/
abbrev Te := Nat × Int
/-- The words behind going back over a trail, the newest entry first. -/
def undW (l : List Int) (tr : List Te) : List Int := tr.foldr (fun e a => a.set e.1 e.2) l
theorem undW_nil (l : List Int) : undW l [] = l := rfl
theorem undW_app (l : List Int) (a b : List Te) : undW l (a ++ b) = undW (undW l b) a := List.foldr_append ..
theorem undW_snoc (l : List Int) (a : List Te) (e : Te) : undW l (a ++ [e]) = undW (l.set e.1 e.2) a := by rw [undW_app]; rfl
theorem undW_len (l : List Int) : ∀ tr, (undW l tr).length = l.length
  | [] => rfl
  | e :: r => by
    show ((undW l r).set e.1 e.2).length = _
    rw [List.length_set, undW_len l r]
theorem undW_take (l : List Int) (K : Nat) : ∀ tr, (undW l tr).take K = undW (l.take K) tr
  | [] => rfl
  | e :: r => by
    show ((undW l r).set e.1 e.2).take K = (undW (l.take K) r).set e.1 e.2
    rw [← undW_take l K r, List.take_set]
/-- The points: how long the trail was, how many words there were. -/
abbrev Pe := Nat × Nat
/-- Does the newest point see a write? -/
def seesB (pt : List Pe) (k : Nat) : Bool := match pt.getLast? with
  | some p => decide (k < p.2)
  | none => false
/-- The trail behind a write. -/
def trW (l : List Int) (tr : List Te) (pt : List Pe) (k : Nat) : List Te := if seesB pt k = true then tr ++ [(k, l.getD k 0)] else tr
/-- The words as they were at a point. -/
def atP (l : List Int) (tr : List Te) (p : Pe) : List Int := undW (l.take p.2) (tr.drop p.1)
/-- Words that a heap may have, and names that they tell. -/
def SndN (l : List Int) (N : Nat) : Prop := (∃ V, Snd l V) ∧ NsB l N
/-- What holds of a heap's words, its trail and its points between calls. -/
structure SI (l : List Int) (N : Nat) (tr : List Te) (pt : List Pe) : Prop where
  now : SndN l N
  ent : ∀ e ∈ tr, e.1 < l.length ∧ (0 ≤ e.2 ∧ e.2 ≤ 18446744073709551615) ∧ mayB e.2 l.length = true
  len : ∀ p ∈ pt, p.1 ≤ tr.length ∧ p.2 ≤ l.length
  old : ∀ p ∈ pt, ∀ e ∈ tr.take p.1, e.1 < p.2 ∧ mayB e.2 p.2 = true
  was : ∀ p ∈ pt, SndN (atP l tr p) N
  mono : pt.Pairwise (fun p q => p.1 ≤ q.1 ∧ p.2 ≤ q.2)
theorem SI.last {l : List Int} {N : Nat} {tr : List Te} {pt : List Pe} (h : SI l N tr pt) {p q : Pe} (hp : p ∈ pt) (hq : pt.getLast? = some q) : p.1 ≤ q.1 ∧ p.2 ≤ q.2 := by
  obtain ⟨i, hi, e⟩ := List.getElem_of_mem hp
  have hl : q = pt[pt.length - 1]'(by omega) := by
    rw [List.getLast?_eq_getElem?] at hq
    rw [List.getElem?_eq_getElem (by omega)] at hq
    exact (Option.some.inj hq).symm
  rcases Nat.lt_or_ge i (pt.length - 1) with h1 | h1
  · have := List.pairwise_iff_getElem.1 h.mono i (pt.length - 1) hi (by omega) h1
    rw [e, ← hl] at this
    exact this
  · have e2 : i = pt.length - 1 := by omega
    subst e2
    rw [← e, hl]
    exact ⟨Nat.le_refl _, Nat.le_refl _⟩
/-- A write that the newest point would see is trailed, so no point's words change. -/
theorem atP_write {l : List Int} {N : Nat} {tr : List Te} {pt : List Pe} (h : SI l N tr pt) {p : Pe} (hp : p ∈ pt) {k : Nat} (hk : k < l.length) (x : Int) : atP (l.set k x) (trW l tr pt k) p = atP l tr p := by
  unfold atP trW
  have hl := h.len p hp
  split
  · rename_i hs
    rw [List.drop_append_of_le_length hl.1, undW_snoc, List.take_set]
    congr 1
    by_cases hkp : k < p.2
    · rw [List.set_set]
      apply List.ext_getElem?
      intro i
      rw [List.getElem?_set]
      split
      · rename_i e
        subst e
        have e1 : k < (l.take p.2).length := by simp; omega
        rw [if_pos e1, List.getElem?_take, if_pos hkp]
        simp [List.getD, hk]
      · rfl
    · rw [List.set_eq_of_length_le (by simp; omega), List.set_eq_of_length_le (by simp; omega)]
  · rename_i hs
    have hkp : p.2 ≤ k := by
      cases hq : pt.getLast? with
      | none => rw [List.getLast?_eq_none_iff] at hq; subst hq; cases hp
      | some q =>
        have h1 := h.last hp hq
        have h2 : ¬ k < q.2 := fun h3 => hs (by unfold seesB; rw [hq]; exact decide_eq_true h3)
        omega
    rw [List.take_set, List.set_eq_of_length_le (by simp; omega)]
theorem snd_may {l : List Int} {V : Nat → Bool} (h : Snd l V) {k : Nat} (hk : k < l.length) : (0 ≤ l.getD k 0 ∧ l.getD k 0 ≤ 18446744073709551615) ∧ mayB (l.getD k 0) l.length = true := by
  have hg := h.good k hk
  have hr := h.rng (l.getD k 0) (by simp [List.getD, hk])
  refine ⟨hr, ?_⟩
  unfold mayB
  have hg' : goodB (l.getD k 0) = true := hg
  rw [hg', Bool.true_and]
  by_cases ht : tellsB (l.getD k 0) = true
  · have h3 : l.getD k 0 % 8 = 0 ∨ l.getD k 0 % 8 = 3 ∨ l.getD k 0 % 8 = 5 := by simpa [tellsB] using ht
    have hv := val_place hg' h3
    have : vlN l k < l.length := by
      rcases h3 with e | e | e
      · exact (h.ref k hk e).1
      · exact (h.str k hk e).1
      · exact Nat.lt_trans (h.fwd k hk e).1 hk
    have e2 : vlN l k = (valOf (l.getD k 0)).toNat := rfl
    rw [Bool.or_eq_true]
    exact Or.inr (decide_eq_true (by omega))
  · simp only [Bool.not_eq_true] at ht
    rw [ht]
    rfl
theorem may_mono {x a b : Int} (h : mayB x a = true) (hab : a ≤ b) : mayB x b = true := by
  unfold mayB at *
  rw [Bool.and_eq_true, Bool.or_eq_true] at *
  exact ⟨h.1, h.2.imp id (fun h => decide_eq_true (by have := of_decide_eq_true h; omega))⟩
theorem SI.write {l : List Int} {N : Nat} {tr : List Te} {pt : List Pe} (h : SI l N tr pt) {k : Nat} (hk : k < l.length) {x : Int} (hn : SndN (l.set k x) N) : SI (l.set k x) N (trW l tr pt k) pt := by
  obtain ⟨V, hV⟩ := h.now.1
  have hm := snd_may hV hk
  have hlt : tr.length ≤ (trW l tr pt k).length := by unfold trW; split <;> simp
  refine ⟨hn, fun e he => ?_, fun p hp => ⟨Nat.le_trans (h.len p hp).1 hlt, by rw [List.length_set]; exact (h.len p hp).2⟩, fun p hp e he => ?_, fun p hp => by rw [atP_write h hp hk]; exact h.was p hp, h.mono⟩
  · rw [List.length_set]
    unfold trW at he
    split at he
    · rcases List.mem_append.1 he with he | he
      · exact h.ent e he
      · have e2 : e = (k, l.getD k 0) := by simpa using he
        subst e2
        exact ⟨hk, hm.1, hm.2⟩
    · exact h.ent e he
  · refine h.old p hp e ?_
    unfold trW at he
    split at he
    · rwa [List.take_append_of_le_length (h.len p hp).1] at he
    · exact he
theorem nsb_more {l : List Int} {N N' : Nat} (h : NsB l N) (hle : N ≤ N') : NsB l N' := ⟨fun k hk ht => by have := h.1 k hk ht; omega, fun k hk ht => by have := h.2 k hk ht; omega⟩
theorem atP_put {l m : List Int} {tr : List Te} {p : Pe} (hp : p.2 ≤ l.length) : atP (l ++ m) tr p = atP l tr p := by
  unfold atP
  rw [List.take_append_of_le_length hp]
theorem SI.put {l m : List Int} {N N' : Nat} {tr : List Te} {pt : List Pe} (h : SI l N tr pt) (hN : N ≤ N') (hn : SndN (l ++ m) N') : SI (l ++ m) N' tr pt := by
  have hl : l.length ≤ (l ++ m).length := by simp
  refine ⟨hn, fun e he => ?_, fun p hp => ⟨(h.len p hp).1, Nat.le_trans (h.len p hp).2 hl⟩, h.old, fun p hp => ?_, h.mono⟩
  · obtain ⟨h1, h2, h3⟩ := h.ent e he
    exact ⟨by omega, h2, may_mono h3 (by omega)⟩
  · rw [atP_put (h.len p hp).2]
    exact ⟨(h.was p hp).1, nsb_more (h.was p hp).2 hN⟩
theorem SI.point {l : List Int} {N : Nat} {tr : List Te} {pt : List Pe} (h : SI l N tr pt) : SI l N tr (pt ++ [(tr.length, l.length)]) := by
  have hc : ∀ p ∈ pt ++ [(tr.length, l.length)], p ∈ pt ∨ p = (tr.length, l.length) := fun p hp => by
    rcases List.mem_append.1 hp with hp | hp
    · exact Or.inl hp
    · exact Or.inr (by simpa using hp)
  refine ⟨h.now, h.ent, fun p hp => ?_, fun p hp e he => ?_, fun p hp => ?_, ?_⟩
  · rcases hc p hp with hp | rfl
    · exact h.len p hp
    · exact ⟨Nat.le_refl _, Nat.le_refl _⟩
  · rcases hc p hp with hp | rfl
    · exact h.old p hp e he
    · have := h.ent e (List.mem_of_mem_take he)
      exact ⟨this.1, this.2.2⟩
  · rcases hc p hp with hp | rfl
    · exact h.was p hp
    · unfold atP
      rw [List.take_length, List.drop_length]
      exact h.now
  · rw [List.pairwise_append]
    refine ⟨h.mono, List.pairwise_singleton _ _, fun p hp q hq => ?_⟩
    have e : q = (tr.length, l.length) := by simpa using hq
    subst e
    exact h.len p hp
theorem SI.release {l : List Int} {N : Nat} {tr : List Te} {pt : List Pe} (h : SI l N tr pt) (n : Nat) : SI l N tr (pt.take n) :=
  ⟨h.now, h.ent, fun p hp => h.len p (List.mem_of_mem_take hp), fun p hp => h.old p (List.mem_of_mem_take hp), fun p hp => h.was p (List.mem_of_mem_take hp), h.mono.sublist (List.take_sublist _ _)⟩
/-- Going back to a point leaves what an elder point sees. -/
theorem atP_undo {l : List Int} {tr : List Te} {p q : Pe} (h1 : p.1 ≤ q.1) (h2 : p.2 ≤ q.2) (hq1 : q.1 ≤ tr.length) : atP (atP l tr q) (tr.take q.1) p = atP l tr p := by
  unfold atP
  have e : tr.drop p.1 = (tr.take q.1).drop p.1 ++ tr.drop q.1 := by
    rw [← List.drop_append_of_le_length (by simp; omega), List.take_append_drop]
  rw [e, undW_app, undW_take, List.take_take, Nat.min_eq_left h2]
theorem SI.undo {l : List Int} {N : Nat} {tr : List Te} {pt : List Pe} (h : SI l N tr pt) (n : Nat) (hn : n < pt.length) : SI (atP l tr pt[n]) N (tr.take pt[n].1) (pt.take (n + 1)) := by
  have hm : pt[n] ∈ pt := List.getElem_mem hn
  have hl := h.len _ hm
  have hlen : (atP l tr pt[n]).length = pt[n].2 := by
    unfold atP
    rw [undW_len, List.length_take]
    omega
  have hle : ∀ p ∈ pt.take (n + 1), p.1 ≤ pt[n].1 ∧ p.2 ≤ pt[n].2 := fun p hp => by
    obtain ⟨i, hi, e⟩ := List.getElem_of_mem hp
    rw [List.getElem_take] at e
    have hi2 : i < pt.length ∧ i ≤ n := by simp at hi; omega
    rcases Nat.lt_or_ge i n with h1 | h1
    · have := List.pairwise_iff_getElem.1 h.mono i n hi2.1 hn h1
      rw [e] at this
      exact this
    · have e2 : i = n := by omega
      subst e2
      rw [← e]
      exact ⟨Nat.le_refl _, Nat.le_refl _⟩
  refine ⟨h.was _ hm, fun e he => ?_, fun p hp => ?_, fun p hp e he => ?_, fun p hp => ?_, h.mono.sublist (List.take_sublist _ _)⟩
  · rw [hlen]
    have h1 := h.old _ hm e he
    exact ⟨h1.1, (h.ent e (List.mem_of_mem_take he)).2.1, h1.2⟩
  · rw [hlen, List.length_take]
    have := hle p hp
    exact ⟨by omega, this.2⟩
  · refine h.old p (List.mem_of_mem_take hp) e ?_
    rw [List.take_take, Nat.min_eq_left (hle p hp).1] at he
    exact he
  · rw [atP_undo (hle p hp).1 (hle p hp).2 hl.1]
    exact h.was p (List.mem_of_mem_take hp)
end Go.Proofs.YtnoggmeffindbabGreatDoor

/- Package cells: a heap in memory with its trail and its points. -/
namespace Go.Proofs.YtnoggmeffindbabGreatDoor
open Go.RowKit

theorem infoSv : (Tryz.prog.info? 59).map (fun i => (i.zero, i.size, i.bytes)) = some (some (.agg #[.int .i64 0, .int .u64 0]), 2, 16) := by kernel_rfl
theorem infoMk : (Tryz.prog.info? 61).map (fun i => (i.zero, i.size, i.bytes)) = some (some (.agg #[.int .i64 0, .int .i64 0, .slice none 0 0]), 3, 40) := by kernel_rfl
/-- The cells of a trail, and of points. -/
def svC (tr : List Te) : List Value := tr.flatMap fun e => [.int .i64 (e.1 : Int), .int .u64 e.2]
def mkC (pt : List Pe) : List Value := pt.flatMap fun p => [.int .i64 (p.1 : Int), .int .i64 (p.2 : Int), .slice none 0 0]
theorem svC_app (a b : List Te) : svC (a ++ b) = svC a ++ svC b := by simp [svC]
theorem mkC_app (a b : List Pe) : mkC (a ++ b) = mkC a ++ mkC b := by simp [mkC]
theorem svC_len : ∀ l : List Te, (svC l).length = l.length * 2
  | [] => rfl
  | p :: r => by
    show (_ :: _ :: svC r).length = _
    rw [List.length_cons, List.length_cons, svC_len r, List.length_cons]
    omega
theorem mkC_len : ∀ l : List Pe, (mkC l).length = l.length * 3
  | [] => rfl
  | p :: r => by
    show (_ :: _ :: _ :: mkC r).length = _
    rw [List.length_cons, List.length_cons, List.length_cons, mkC_len r, List.length_cons]
    omega
theorem svC_take : ∀ (l : List Te) (n : Nat), (svC l).take (n * 2) = svC (l.take n)
  | [], n => by simp [svC]
  | p :: r, 0 => by simp [svC]
  | p :: r, n + 1 => by
    show (_ :: _ :: svC r).take ((n + 1) * 2) = _ :: _ :: svC (r.take n)
    rw [show (n + 1) * 2 = n * 2 + 1 + 1 by omega, List.take_succ_cons, List.take_succ_cons, svC_take r n]
theorem mkC_take : ∀ (l : List Pe) (n : Nat), (mkC l).take (n * 3) = mkC (l.take n)
  | [], n => by simp [mkC]
  | p :: r, 0 => by simp [mkC]
  | p :: r, n + 1 => by
    show (_ :: _ :: _ :: mkC r).take ((n + 1) * 3) = _ :: _ :: _ :: mkC (r.take n)
    rw [show (n + 1) * 3 = n * 3 + 1 + 1 + 1 by omega, List.take_succ_cons, List.take_succ_cons, List.take_succ_cons, mkC_take r n]
theorem svC_at : ∀ (l : List Te) (j : Nat), j < l.length → (svC l)[j * 2]? = some (.int .i64 ((l.getD j (0, 0)).1 : Int)) ∧ (svC l)[j * 2 + 1]? = some (.int .u64 (l.getD j (0, 0)).2)
  | [], j, h => absurd h (Nat.not_lt_zero _)
  | p :: r, 0, _ => ⟨rfl, rfl⟩
  | p :: r, j + 1, h => by
    have := svC_at r j (by simpa using h)
    rw [show (j + 1) * 2 = j * 2 + 1 + 1 by omega]
    have e : svC (p :: r) = .int .i64 (p.1 : Int) :: .int .u64 p.2 :: svC r := rfl
    rw [e]
    simpa [List.getD] using this
theorem mkC_at : ∀ (l : List Pe) (j : Nat), j < l.length → (mkC l)[j * 3]? = some (.int .i64 ((l.getD j (0, 0)).1 : Int)) ∧ (mkC l)[j * 3 + 1]? = some (.int .i64 ((l.getD j (0, 0)).2 : Int)) ∧ (mkC l)[j * 3 + 2]? = some (.slice none 0 0)
  | [], j, h => absurd h (Nat.not_lt_zero _)
  | p :: r, 0, _ => ⟨rfl, rfl, rfl⟩
  | p :: r, j + 1, h => by
    have := mkC_at r j (by simpa using h)
    rw [show (j + 1) * 3 = j * 3 + 1 + 1 + 1 by omega]
    have e : mkC (p :: r) = .int .i64 (p.1 : Int) :: .int .i64 (p.2 : Int) :: .slice none 0 0 :: mkC r := rfl
    rw [e]
    simpa [List.getD] using this
/-- A heap with its trail and its points. -/
structure Hq (w : World) (B hb ab tb : Nat) (m : Int) (av : Value) (l : List Int) (tv : Value) (tq : Nat) (ns : List ByteArray) (trv : Value) (tr : List Te) (ptv : Value) (pt : List Pe) (n : Int) : Prop where
  hp : Hp w B hb ab tb m av l tv tq ns trv ptv n
  tr : w.ownsRow B 59 2 trv tr.length (svC tr)
  pt : w.ownsRow B 61 3 ptv pt.length (mkC pt)
/-- The blocks of a heap that its calls write. -/
def qfoot (hb ab : Nat) (av trv ptv : Value) : List Nat := hb :: (a_foot ab av ++ (trv.ownBlock.toList ++ ptv.ownBlock.toList))
theorem mem_qfoot {hb ab k : Nat} {av trv ptv : Value} : k ∈ qfoot hb ab av trv ptv ↔ k = hb ∨ k ∈ a_foot ab av ∨ trv.ownBlock = some k ∨ ptv.ownBlock = some k := by simp [qfoot]
/-- A row's slice. -/
theorem own_slq {w : World} {B z : Nat} {e : TypeId} {v : Value} {n : Nat} {xs : List Value} (h : w.ownsRow B e z v n xs) : ∃ ao c, v = .slice ao n c ∧ n ≤ c ∧ c ≤ maxLen ∧ (ao = none → n = 0 ∧ c = 0) ∧ (∀ a, ao = some a → a = ⟨a.block, 0, none⟩) := by
  rcases h.2 with ⟨rfl, h0⟩ | ⟨g, cap, cur, rfl, _, _, hc, hm, _⟩
  · exact ⟨none, 0, by rw [h0], by omega, by unfold maxLen; omega, (fun _ => ⟨h0, rfl⟩), (fun a e => by cases e)⟩
  · exact ⟨_, cap, rfl, hc, hm, (fun e => by cases e), (fun a e => by cases e; rfl)⟩
/-- The first so many of a row. -/
theorem own_cut {w : World} {B z : Nat} {e : TypeId} {ao : Option Addr} {c n k : Nat} {xs : List Value} (h : w.ownsRow B e z (.slice ao n c) n xs) (hk : k ≤ n) : w.ownsRow B e z (.slice ao k c) k (xs.take (k * z)) := by
  have h1 := h.1
  have hkz : k * z ≤ n * z := Nat.mul_le_mul_right z hk
  refine ⟨by rw [List.length_take]; omega, ?_⟩
  rcases h.2 with ⟨e0, h0⟩ | ⟨g, cap, cur, e0, hb, hg, hc, hm, hs, ht⟩
  · injection e0 with e1 e2 e3
    subst e1 e3
    have : k = 0 := by omega
    subst this
    exact Or.inl ⟨rfl, rfl⟩
  · injection e0 with e1 e2 e3
    subst e1 e3
    refine Or.inr ⟨g, c, cur, rfl, hb, hg, by omega, hm, hs, ?_⟩
    rw [← ht, List.take_take, Nat.min_eq_left hkz]
section
variable {w w' : World} {B hb ab tb : Nat} {m : Int} {av : Value} {l : List Int} {tv : Value} {tq : Nat} {ns : List ByteArray} {trv : Value} {tr : List Te} {ptv : Value} {pt : List Pe} {n : Int}
theorem Hq.below (h : Hq w B hb ab tb m av l tv tq ns trv tr ptv pt n) (hm : Below w.heap.size w w') : Hq w' B hb ab tb m av l tv tq ns trv tr ptv pt n :=
  ⟨h.hp.below hm, row_keep h.tr (fun k hk => hm.block k (h.tr.lt k hk).2), row_keep h.pt (fun k hk => hm.block k (h.pt.lt k hk).2)⟩
/-- The type of a block. -/
theorem Hq.aty (h : Hq w B hb ab tb m av l tv tq ns trv tr ptv pt n) {k : Nat} (hk : k ∈ a_foot ab av) : ∃ cs T, w.heap[k]? = some (.cells cs T (0, 0)) ∧ (T = 150 ∨ T = 57) := by
  rcases a_mem_foot.1 hk with rfl | hk
  · exact ⟨_, _, h.hp.ar.blk, Or.inl rfl⟩
  · obtain ⟨cur, hc, _⟩ := own_block_obj h.hp.ar.own hk
    exact ⟨cur, _, hc, Or.inr rfl⟩
theorem Hq.nty (h : Hq w B hb ab tb m av l tv tq ns trv tr ptv pt n) {k : Nat} (hk : k ∈ n_foot tb tv tq) : (∃ cs T, w.heap[k]? = some (.cells cs T (0, 0)) ∧ (T = 164 ∨ T = 9)) ∨ (∀ cs T x, w.heap[k]? ≠ some (.cells cs T x)) := by
  rcases n_mem_foot.1 hk with e | e | e
  · subst e
    exact Or.inl ⟨_, _, h.hp.tb.blk, Or.inl rfl⟩
  · subst e
    obtain ⟨D, ⟨es, clock, hq, _⟩, _⟩ := h.hp.tb.map
    refine Or.inr (fun cs T x hx => ?_)
    rw [hq] at hx
    simp at hx
  · obtain ⟨cur, hc, _⟩ := own_block_obj h.hp.tb.own e
    exact Or.inl ⟨cur, _, hc, Or.inr rfl⟩
/-- The rows of the trail and of the points lie apart from all else, and from each other. -/
theorem Hq.apart (h : Hq w B hb ab tb m av l tv tq ns trv tr ptv pt n) {k : Nat} (hk : trv.ownBlock = some k ∨ ptv.ownBlock = some k) : k ≠ hb ∧ k ∉ a_foot ab av ∧ k ∉ n_foot tb tv tq ∧ ¬ (trv.ownBlock = some k ∧ ptv.ownBlock = some k) := by
  have hT : ∃ cs T, w.heap[k]? = some (.cells cs T (0, 0)) ∧ (T = 59 ∨ T = 61) := by
    rcases hk with hk | hk
    · obtain ⟨cur, hc, _⟩ := own_block_obj h.tr hk
      exact ⟨cur, _, hc, Or.inl rfl⟩
    · obtain ⟨cur, hc, _⟩ := own_block_obj h.pt hk
      exact ⟨cur, _, hc, Or.inr rfl⟩
  obtain ⟨cs, T, hw, hTT⟩ := hT
  refine ⟨fun e => ?_, fun hf => ?_, fun hf => ?_, fun ⟨h1, h2⟩ => ?_⟩
  · subst e
    exact obj_ne hw h.hp.blk (by rcases hTT with rfl | rfl <;> decide) rfl
  · obtain ⟨cs', T', hw', hTT'⟩ := h.aty hf
    exact obj_ne hw hw' (by rcases hTT with rfl | rfl <;> rcases hTT' with rfl | rfl <;> decide) rfl
  · rcases h.nty hf with ⟨cs', T', hw', hTT'⟩ | hno
    · exact obj_ne hw hw' (by rcases hTT with rfl | rfl <;> rcases hTT' with rfl | rfl <;> decide) rfl
    · exact hno _ _ _ hw
  · obtain ⟨c1, e1, _⟩ := own_block_obj h.tr h1
    obtain ⟨c2, e2, _⟩ := own_block_obj h.pt h2
    exact obj_ne e1 e2 (by decide) rfl
/-- The rows stay where their blocks do. -/
theorem Hq.rows (h : Hq w B hb ab tb m av l tv tq ns trv tr ptv pt n) {ks : List Nat} (hm : a_Mod ks w w') (hk : ∀ k ∈ ks, ¬ (trv.ownBlock = some k ∨ ptv.ownBlock = some k)) : w'.ownsRow B 59 2 trv tr.length (svC tr) ∧ w'.ownsRow B 61 3 ptv pt.length (mkC pt) :=
  ⟨row_keep h.tr (fun k e => hm.block k (h.tr.lt k e).2 (fun hx => hk k hx (Or.inl e))), row_keep h.pt (fun k e => hm.block k (h.pt.lt k e).2 (fun hx => hk k hx (Or.inr e)))⟩
theorem Hq.words {av' : Value} {l' : List Int} (h : Hq w B hb ab tb m av l tv tq ns trv tr ptv pt n) (u : a_Upd 150 w w' B ab m av l' av') : Hq w' B hb ab tb m av' l' tv tq ns trv tr ptv pt n := by
  obtain ⟨r1, r2⟩ := h.rows u.mod (fun k hk hx => (h.apart hx).2.1 hk)
  exact ⟨h.hp.words u, r1, r2⟩
/-- One of the heap's own fields is written. -/
theorem Hq.own {o : Nat} {u : Value} (h : Hq w B hb ab tb m av l tv tq ns trv tr ptv pt n) : w.heap.size = (w.setCell ⟨hb, o, none⟩ u).heap.size ∧ Ar 150 (w.setCell ⟨hb, o, none⟩ u) B ab m av l ∧ Tb (w.setCell ⟨hb, o, none⟩ u) B tb tv tq ns ∧ (w.setCell ⟨hb, o, none⟩ u).ownsRow B 59 2 trv tr.length (svC tr) ∧ (w.setCell ⟨hb, o, none⟩ u).ownsRow B 61 3 ptv pt.length (mkC pt) := by
  obtain ⟨h1, h2⟩ := h.hp.self
  have hm : a_Mod [hb] w (w.setCell ⟨hb, o, none⟩ u) := (a_Mod.refl [hb] w).setCell (p := ⟨hb, o, none⟩) (Or.inl (by simp)) _
  obtain ⟨r1, r2⟩ := h.rows hm (fun k hk hx => (h.apart hx).1 (by simpa using hk))
  refine ⟨by simp, h.hp.ar.keep hm (fun k hk => by
    have e : k = hb := by simpa using hk
    rw [e]; exact h1), h.hp.tb.keep (mod_an hm) (fun k hk => by
    have e : k = hb := by simpa using hk
    rw [e]; exact h2), r1, r2⟩
theorem Hq.wrote (h : Hq w B hb ab tb m av l tv tq ns trv tr ptv pt n) (n' : Int) : Hq (w.setCell ⟨hb, 4, none⟩ (.int .i64 n')) B hb ab tb m av l tv tq ns trv tr ptv pt n' := by
  obtain ⟨_, ha, ht, r1, r2⟩ := h.own (o := 4) (u := .int .i64 n')
  exact ⟨⟨heap_setCell_same w hb 4 _ _ (.int .i64 n') h.hp.blk, h.hp.base, ha, ht⟩, r1, r2⟩
theorem Hq.newtr {trv' : Value} {tr' : List Te} (h : Hq w B hb ab tb m av l tv tq ns trv tr ptv pt n) (hr : w.ownsRow B 59 2 trv' tr'.length (svC tr')) : Hq (w.setCell ⟨hb, 2, none⟩ trv') B hb ab tb m av l tv tq ns trv' tr' ptv pt n := by
  obtain ⟨_, ha, ht, _, r2⟩ := h.own (o := 2) (u := trv')
  refine ⟨⟨heap_setCell_same w hb 2 _ _ trv' h.hp.blk, h.hp.base, ha, ht⟩, row_keep hr (fun k hk => Below.heap_setCell _ _ _ _ (fun e => ?_)), r2⟩
  obtain ⟨c, e1, _⟩ := own_block_obj hr hk
  exact obj_ne e1 h.hp.blk (by decide) e
theorem Hq.newpt {ptv' : Value} {pt' : List Pe} (h : Hq w B hb ab tb m av l tv tq ns trv tr ptv pt n) (hr : w.ownsRow B 61 3 ptv' pt'.length (mkC pt')) : Hq (w.setCell ⟨hb, 3, none⟩ ptv') B hb ab tb m av l tv tq ns trv tr ptv' pt' n := by
  obtain ⟨_, ha, ht, r1, _⟩ := h.own (o := 3) (u := ptv')
  refine ⟨⟨heap_setCell_same w hb 3 _ _ ptv' h.hp.blk, h.hp.base, ha, ht⟩, r1, row_keep hr (fun k hk => Below.heap_setCell _ _ _ _ (fun e => ?_))⟩
  obtain ⟨c, e1, _⟩ := own_block_obj hr hk
  exact obj_ne e1 h.hp.blk (by decide) e
/-- A row of the trail's or of the points' own kind grows: all else stays. -/
theorem Hq.grown {v : Value} (h : Hq w B hb ab tb m av l tv tq ns trv tr ptv pt n) (hv : v = trv ∨ v = ptv) (hg : w.grownBy w' v.ownBlock) : Hp w' B hb ab tb m av l tv tq ns trv ptv n ∧ a_Mod v.ownBlock.toList w w' ∧ (∀ k, k < w.heap.size → v.ownBlock ≠ some k → w'.heap[k]? = w.heap[k]?) := by
  have hb' : ∀ k, k < w.heap.size → v.ownBlock ≠ some k → w'.heap[k]? = w.heap[k]? := fun k hk hn => hg.block k hk (fun e => hn e.symm)
  have hne : ∀ k, v.ownBlock = some k → k ≠ hb ∧ k ∉ a_foot ab av ∧ k ∉ n_foot tb tv tq := fun k hk => by
    have := h.apart (k := k) (by rcases hv with rfl | rfl; exact Or.inl hk; exact Or.inr hk)
    exact ⟨this.1, this.2.1, this.2.2.1⟩
  have hm : a_Mod v.ownBlock.toList w w' := ⟨hg.os, hg.tape, hg.output, hg.size, fun k hk hn => hb' k hk (fun e => hn (by simp [e]))⟩
  refine ⟨⟨(hb' hb (lt_of_block h.hp.blk) (fun e => (hne hb e).1 rfl)).trans h.hp.blk, h.hp.base, h.hp.ar.keep hm (fun k hk => (hne k (by simpa using hk)).2.1), h.hp.tb.keep (mod_an hm) (fun k hk => (hne k (by simpa using hk)).2.2)⟩, hm, hb'⟩
end
end Go.Proofs.YtnoggmeffindbabGreatDoor

/- slices.Clone of a trail and of points. -/
namespace Go.Proofs.YtnoggmeffindbabGreatDoor
open Go.RowKit

/-- A slice of nothing is appended: nothing changes. -/
theorem run_app_none {P : Program} {w : World} (base : Nat) (t ty e : TypeId) (i : TypeInfo) (size : Nat) (ht : P.underlying t = some (.slice e)) (hi : P.info? e = some i)
    (v : Value) (n : Nat) (xs : List Value) (hown : w.ownsRow base e size v n xs) (ao : Option Addr) (c : Nat) :
    (Builtin.append_ #[t, t] ty #[v, .slice ao 0 c]).run P w = .ok v w := by
  cases ao with
  | none =>
    rcases hown.2 with ⟨rfl, rfl⟩ | ⟨g, cap, cur, rfl, _, _, hnc, _⟩
    · simp [Builtin.append_, run_underlying ht, sizeOf, typeInfo, hi, Builtin.lenOf, Builtin.firstCells]
    · simp [Builtin.append_, run_underlying ht, sizeOf, typeInfo, hi, Builtin.lenOf, Builtin.firstCells, hnc, storeCells]
  | some a =>
    rcases hown.2 with ⟨rfl, rfl⟩ | ⟨g, cap, cur, rfl, _, _, hnc, _⟩
    · simp [Builtin.append_, run_underlying ht, sizeOf, typeInfo, hi, Builtin.lenOf, Builtin.firstCells, loadCells, loadCellsFrom]
    · simp [Builtin.append_, run_underlying ht, sizeOf, typeInfo, hi, Builtin.lenOf, Builtin.firstCells, hnc, storeCells, loadCells, loadCellsFrom]
theorem qslice_nil_in {P : Program} (w : World) (d : Nat) (t : TypeId) {e : TypeId} (h : P.underlying t = some (.slice e)) (ao : Option Addr) (n c : Nat) : (Op.equalIn (d + 1) t (.slice ao n c) (.slice none 0 0)).run P w = .ok ao.isNone w := by
  cases ao <;> simp [Op.equalIn, run_underlying h]
theorem svC_one (tr : List Te) : ∀ u ∈ svC tr, u.oneCell' = true := fun u hu => by
  obtain ⟨e, _, he⟩ := List.mem_flatMap.1 hu
  rcases List.mem_cons.1 he with rfl | he
  · rfl
  · have : u = .int .u64 e.2 := by simpa using he
    rw [this]
    rfl
theorem mkC_one (pt : List Pe) : ∀ u ∈ mkC pt, u.oneCell' = true := fun u hu => by
  obtain ⟨e, _, he⟩ := List.mem_flatMap.1 hu
  rcases List.mem_cons.1 he with rfl | he
  · rfl
  · rcases List.mem_cons.1 he with rfl | he
    · rfl
    · have : u = .slice none 0 0 := by simpa using he
      rw [this]
      rfl
theorem svslice_nil (w : World) (ao : Option Addr) (n c : Nat) : (binOp .eql 49 (.slice ao n c) (.slice none 0 0)).run Tryz.prog w = .ok (.bool ao.isNone) w := by
  simp only [binOp]
  simp [show Op.equal 49 (.slice ao n c) (.slice none 0 0) = Op.equalIn (9999 + 1) 49 (.slice ao n c) (.slice none 0 0) from rfl, qslice_nil_in w 9999 49 Tryz.underlying49]
set_option maxRecDepth 100000 in
set_option maxHeartbeats 1000000 in
theorem svclone_any {w : World} {B n : Nat} {v : Value} {xs : List Value} (h : w.ownsRow B 59 2 v n xs) (h1 : ∀ u ∈ xs, u.oneCell' = true) (hl : n ≤ 100000) :
    Calls Tryz.prog 54 #[v] w fun e w' => ∃ ao c, e = .returned (.slice ao n c) ∧ w'.ownsRow w.heap.size 59 2 (.slice ao n c) n xs ∧ Below w.heap.size w w' := by
  obtain ⟨i0, hi, hz0, hz1, hz2⟩ := info_parts infoSv
  have h0 := h
  have hlen := h.1
  rcases h.2 with ⟨rfl, hn⟩ | ⟨g, cap, cur, rfl, _⟩
  · subst hn
    have hx : xs = [] := List.eq_nil_of_length_eq_zero (by omega)
    subst hx
    have hsn := fun w : World => svslice_nil w none 0 0
    clear h h0 h1 hlen
    go_enter Tryz.func54, Tryz.ntmps54
    go_wp2
    go_ret
    exact ⟨_, _, rfl, World.ownsRow_nil _ _ _ _, Below.refl _ _⟩
  · have hown : (w.alloc (.cells #[] 59)).ownsRow w.heap.size 59 2 (.slice (some ⟨w.heap.size, 0, none⟩) 0 0) 0 [] := ⟨rfl, Or.inr ⟨w.heap.size, 0, #[], rfl, Nat.le_refl _, heap_alloc_new w _, Nat.le_refl _, Nat.zero_le _, rfl, rfl⟩⟩
    have hsn := fun w : World => svslice_nil w (some ⟨g, 0, none⟩) n cap
    by_cases hn : n = 0
    · subst hn
      have hx : xs = [] := List.eq_nil_of_length_eq_zero (by omega)
      subst hx
      have hr := fun ty => run_app_none (P := Tryz.prog) w.heap.size 49 ty 59 i0 2 Tryz.underlying49 hi _ 0 [] hown (some ⟨g, 0, none⟩) cap
      clear h h0 h1 hlen
      go_enter Tryz.func54, Tryz.ntmps54
      go_wp2_with (at_builtin; refine Lib.wpList_append_run _ rfl _ _ _ _ rfl _ _ rfl rfl _ _ (hr _) ?_)
      go_ret
      exact ⟨_, _, rfl, hown, below_alloc w _⟩
    · have hnews : ∀ j u, xs[j]? = some u → (w.alloc (.cells #[] 59)).cell? ((⟨g, 0, none⟩ : Addr).add j) = some u := fun j u hj => by
        exact ((h0.alloc (.cells #[] 59)).cells (g := g) rfl) j u hj
      have hpos : 0 < n := by omega
      clear h h0 hn
      go_enter Tryz.func54, Tryz.ntmps54
      go_wp2_with (at_builtin; refine wpList_append_lies _ rfl _ _ 49 rfl w.heap.size 59 i0 (.agg #[.int .i64 0, .int .u64 0]) 2 16 Tryz.underlying49 hi hz0 hz1 hz2 rfl (by decide) (.slice (some ⟨w.heap.size, 0, none⟩) 0 0) 0 [] rfl hown ⟨g, 0, none⟩ n cap xs rfl hlen hnews h1 hpos (by unfold maxLen; omega) (by omega) (by simp) _ rfl ?_; intro g' cap' w1 hown' hgrow _ _)
      go_ret
      refine ⟨some ⟨g', 0, none⟩, cap', by simp, by simpa using hown', ?_⟩
      exact (below_alloc w _).grown hgrow (by simp) (fun k e => by
        have e' : k = w.heap.size := by simpa [Value.ownBlock] using e.symm
        omega)
theorem mkslice_nil (w : World) (ao : Option Addr) (n c : Nat) : (binOp .eql 50 (.slice ao n c) (.slice none 0 0)).run Tryz.prog w = .ok (.bool ao.isNone) w := by
  simp only [binOp]
  simp [show Op.equal 50 (.slice ao n c) (.slice none 0 0) = Op.equalIn (9999 + 1) 50 (.slice ao n c) (.slice none 0 0) from rfl, qslice_nil_in w 9999 50 Tryz.underlying50]
set_option maxRecDepth 100000 in
set_option maxHeartbeats 1000000 in
theorem mkclone_any {w : World} {B n : Nat} {v : Value} {xs : List Value} (h : w.ownsRow B 61 3 v n xs) (h1 : ∀ u ∈ xs, u.oneCell' = true) (hl : n ≤ 100000) :
    Calls Tryz.prog 55 #[v] w fun e w' => ∃ ao c, e = .returned (.slice ao n c) ∧ w'.ownsRow w.heap.size 61 3 (.slice ao n c) n xs ∧ Below w.heap.size w w' := by
  obtain ⟨i0, hi, hz0, hz1, hz2⟩ := info_parts infoMk
  have h0 := h
  have hlen := h.1
  rcases h.2 with ⟨rfl, hn⟩ | ⟨g, cap, cur, rfl, _⟩
  · subst hn
    have hx : xs = [] := List.eq_nil_of_length_eq_zero (by omega)
    subst hx
    have hsn := fun w : World => mkslice_nil w none 0 0
    clear h h0 h1 hlen
    go_enter Tryz.func55, Tryz.ntmps55
    go_wp2
    go_ret
    exact ⟨_, _, rfl, World.ownsRow_nil _ _ _ _, Below.refl _ _⟩
  · have hown : (w.alloc (.cells #[] 61)).ownsRow w.heap.size 61 3 (.slice (some ⟨w.heap.size, 0, none⟩) 0 0) 0 [] := ⟨rfl, Or.inr ⟨w.heap.size, 0, #[], rfl, Nat.le_refl _, heap_alloc_new w _, Nat.le_refl _, Nat.zero_le _, rfl, rfl⟩⟩
    have hsn := fun w : World => mkslice_nil w (some ⟨g, 0, none⟩) n cap
    by_cases hn : n = 0
    · subst hn
      have hx : xs = [] := List.eq_nil_of_length_eq_zero (by omega)
      subst hx
      have hr := fun ty => run_app_none (P := Tryz.prog) w.heap.size 50 ty 61 i0 3 Tryz.underlying50 hi _ 0 [] hown (some ⟨g, 0, none⟩) cap
      clear h h0 h1 hlen
      go_enter Tryz.func55, Tryz.ntmps55
      go_wp2_with (at_builtin; refine Lib.wpList_append_run _ rfl _ _ _ _ rfl _ _ rfl rfl _ _ (hr _) ?_)
      go_ret
      exact ⟨_, _, rfl, hown, below_alloc w _⟩
    · have hnews : ∀ j u, xs[j]? = some u → (w.alloc (.cells #[] 61)).cell? ((⟨g, 0, none⟩ : Addr).add j) = some u := fun j u hj => by
        exact ((h0.alloc (.cells #[] 61)).cells (g := g) rfl) j u hj
      have hpos : 0 < n := by omega
      clear h h0 hn
      go_enter Tryz.func55, Tryz.ntmps55
      go_wp2_with (at_builtin; refine wpList_append_lies _ rfl _ _ 50 rfl w.heap.size 61 i0 (.agg #[.int .i64 0, .int .i64 0, .slice none 0 0]) 3 40 Tryz.underlying50 hi hz0 hz1 hz2 rfl (by decide) (.slice (some ⟨w.heap.size, 0, none⟩) 0 0) 0 [] rfl hown ⟨g, 0, none⟩ n cap xs rfl hlen hnews h1 hpos (by unfold maxLen; omega) (by omega) (by simp) _ rfl ?_; intro g' cap' w1 hown' hgrow _ _)
      go_ret
      refine ⟨some ⟨g', 0, none⟩, cap', by simp, by simpa using hown', ?_⟩
      exact (below_alloc w _).grown hgrow (by simp) (fun k e => by
        have e' : k = w.heap.size := by simpa [Value.ownBlock] using e.symm
        omega)
end Go.Proofs.YtnoggmeffindbabGreatDoor

/- Package cells: Dump of a nil heap. -/
namespace Go.Proofs.YtnoggmeffindbabGreatDoor
open Go.RowKit Go.Shelf

attribute [local go_sem] Oper.semAt_some

/-- A dump in its box. -/
abbrev dmpO (a b c d e : Value) : Obj := .cells #[a, b, c, d, e] 54
abbrev dmp0 : Obj := dmpO (.slice none 0 0) (.slice none 0 0) (.slice none 0 0) (.slice none 0 0) (.slice none 0 0)
abbrev setD (w : World) (q : Nat) (a b c d e : Value) : World := ((((w.setCell ⟨q, 0, none⟩ a).setCell ⟨q, 1, none⟩ b).setCell ⟨q, 2, none⟩ c).setCell ⟨q, 3, none⟩ d).setCell ⟨q, 4, none⟩ e
theorem setD_at {w : World} {q : Nat} {u0 u1 u2 u3 u4 : Value} {T : TypeId} (h : w.heap[q]? = some (.cells #[u0, u1, u2, u3, u4] T)) (a b c d e : Value) : (setD w q a b c d e).heap[q]? = some (.cells #[a, b, c, d, e] T) :=
  heap_setCell_same _ q 4 _ _ e (heap_setCell_same _ q 3 _ _ d (heap_setCell_same _ q 2 _ _ c (heap_setCell_same _ q 1 _ _ b (heap_setCell_same w q 0 _ _ a h))))
theorem setD_far (w : World) {q k : Nat} (a b c d e : Value) (h : k ≠ q) : (setD w q a b c d e).heap[k]? = w.heap[k]? := by
  rw [Below.heap_setCell _ _ _ _ h, Below.heap_setCell _ _ _ _ h, Below.heap_setCell _ _ _ _ h, Below.heap_setCell _ _ _ _ h, Below.heap_setCell _ _ _ _ h]
theorem setD_below {W w : World} {n q : Nat} (hb : Below n W w) (hq : n ≤ q) (a b c d e : Value) : Below n W (setD w q a b c d e) := ((((hb.setCell (p := ⟨q, 0, none⟩) hq _).setCell (p := ⟨q, 1, none⟩) hq _).setCell (p := ⟨q, 2, none⟩) hq _).setCell (p := ⟨q, 3, none⟩) hq _).setCell (p := ⟨q, 4, none⟩) hq _
theorem ret_dmp {w : World} {fn : Func} {t : Tmp} (hfn : fn.results = #[.cell t 54]) {tmps : Array Value} {q : Nat} {u0 u1 u2 u3 u4 : Value} (h4 : tmps[t]?.getD undef = .pointer (some ⟨q, 0, none⟩)) (hq : w.heap[q]? = some (.cells #[u0, u1, u2, u3, u4] 54)) : (results fn tmps).run Tryz.prog w = .ok (.agg #[u0, u1, u2, u3, u4]) w := by
  obtain ⟨⟨z0, z1, z2, z3, z4⟩, _⟩ := cel_cells hq
  simp [results, hfn, go_sem, h4, z0, z1, z2, z3, z4]
/-- What lies in memory while a heap is laid open. -/
structure Dk (w : World) (hb : Nat) (O : Obj) (W : World) : Prop where
  b : Below w.heap.size w W
  x : W.heap[w.heap.size]? = some dmp0
  n : W.heap[hb]? = some O
theorem Dk.next {w W W' : World} {hb : Nat} {O : Obj} (h : Dk w hb O W) (hb' : Below W.heap.size W W') : Dk w hb O W' := ⟨Below.next h.b hb', (hb'.block _ (lt_of_block h.x)).trans h.x, (hb'.block _ (lt_of_block h.n)).trans h.n⟩
theorem Dk.drew {w W : World} {hb : Nat} {O : Obj} (h : Dk w hb O W) : Dk w hb O W.drew := h.next (Below.refl _ W).drew
/-- A heap's own block. -/
abbrev hpO (ap tp : Option Addr) (trv ptv : Value) (n : Int) : Obj := .cells #[.pointer ap, .pointer tp, trv, ptv, .int .i64 n] 100
theorem Dk.cells {w W : World} {hb : Nat} {ap tp : Option Addr} {trv ptv : Value} {n : Int} (h : Dk w hb (hpO ap tp trv ptv n) W) : W.cell? ⟨hb, 0, none⟩ = some (.pointer ap) ∧ W.cell? ⟨hb, 1, none⟩ = some (.pointer tp) ∧ W.cell? ⟨hb, 2, none⟩ = some trv ∧ W.cell? ⟨hb, 3, none⟩ = some ptv ∧ hb < W.heap.size := by
  obtain ⟨⟨c0, c1, c2, c3, _⟩, _, c5⟩ := cel_cells h.n
  exact ⟨c0, c1, c2, c3, c5⟩
theorem row_below {A A' : World} {B z : Nat} {e : TypeId} {v : Value} {n : Nat} {xs : List Value} (h : A.ownsRow B e z v n xs) (hb : Below A.heap.size A A') : A'.ownsRow B e z v n xs := row_keep h (fun k hk => hb.block k (h.lt k hk).2)
/-- The rows of a dump. -/
structure Dr (B : Nat) (v1 : Value) (k1 : Nat) (xs1 : List Value) (v2 : Value) (k2 : Nat) (xs2 : List Value) (v3 : Value) (k3 : Nat) (xs3 : List Value) (W : World) : Prop where
  r1 : W.ownsRow B 57 1 v1 k1 xs1
  r2 : W.ownsRow B 59 2 v2 k2 xs2
  r3 : W.ownsRow B 61 3 v3 k3 xs3
theorem Dr.keep {B : Nat} {v1 v2 v3 : Value} {k1 k2 k3 : Nat} {xs1 xs2 xs3 : List Value} {A A' : World} (h : Dr B v1 k1 xs1 v2 k2 xs2 v3 k3 xs3 A) (hk : ∀ (k : Nat) (o : Obj), A.heap[k]? = some o → (∀ (cs : Array Value) (x : Nat × Nat), o ≠ .cells cs 54 x) → o.isCells = true → A'.heap[k]? = some o) : Dr B v1 k1 xs1 v2 k2 xs2 v3 k3 xs3 A' := by
  have key : ∀ {z : Nat} {e : TypeId} {v : Value} {n : Nat} {xs : List Value}, A.ownsRow B e z v n xs → e ≠ 54 → A'.ownsRow B e z v n xs := fun {z e v n xs} hr hne => row_keep hr (fun k hk' => by
    obtain ⟨cur, hc⟩ := row_obj hr hk'
    rw [hc]
    exact hk k _ hc (fun cs x e' => by injection e' with _ e'; exact hne e') rfl)
  exact ⟨key h.r1 (by decide), key h.r2 (by decide), key h.r3 (by decide)⟩
theorem Dr.set {B : Nat} {v1 v2 v3 : Value} {k1 k2 k3 : Nat} {xs1 xs2 xs3 : List Value} {A : World} {q o : Nat} {u : Value} {cs : Array Value} (h : Dr B v1 k1 xs1 v2 k2 xs2 v3 k3 xs3 A) (hq : A.heap[q]? = some (.cells cs 54)) : Dr B v1 k1 xs1 v2 k2 xs2 v3 k3 xs3 (A.setCell ⟨q, o, none⟩ u) :=
  h.keep (fun k o' hk hne _ => (Below.heap_setCell _ _ _ _ (fun e => by subst e; rw [hq] at hk; exact hne _ _ (Option.some.inj hk).symm)).trans hk)
/-- What lies in memory behind the first line of Dump. -/
structure Dc (w : World) (hb : Nat) (O : Obj) (k1 : Nat) (xs1 : List Value) (k2 : Nat) (xs2 : List Value) (k3 : Nat) (xs3 : List Value) (t3 : Nat) (W : World) : Prop where
  d : Dk w hb O W
  lt : w.heap.size < t3
  r : ∃ a1 c1 a2 c2 a3 c3, W.heap[t3]? = some (dmpO (.slice a1 k1 c1) (.slice a2 k2 c2) (.slice a3 k3 c3) (.slice none 0 0) (.slice none 0 0)) ∧ Dr w.heap.size (.slice a1 k1 c1) k1 xs1 (.slice a2 k2 c2) k2 xs2 (.slice a3 k3 c3) k3 xs3 W
theorem Dc.late {w : World} {hb : Nat} {O : Obj} {k1 k2 k3 : Nat} {xs1 xs2 xs3 : List Value} {W : World} {a1 a2 a3 : Option Addr} {c1 c2 c3 : Nat} (h : Dk w hb O W) (hz : w.heap.size < W.heap.size) (r1 : W.ownsRow w.heap.size 57 1 (.slice a1 k1 c1) k1 xs1) (r2 : W.ownsRow w.heap.size 59 2 (.slice a2 k2 c2) k2 xs2) (r3 : W.ownsRow w.heap.size 61 3 (.slice a3 k3 c3) k3 xs3) : Dc w hb O k1 xs1 k2 xs2 k3 xs3 W.heap.size (W.alloc (dmpO (.slice a1 k1 c1) (.slice a2 k2 c2) (.slice a3 k3 c3) (.slice none 0 0) (.slice none 0 0))) :=
  ⟨h.next (below_alloc W _), hz, a1, c1, a2, c2, a3, c3, heap_alloc_new W _, row_below r1 (below_alloc W _), row_below r2 (below_alloc W _), row_below r3 (below_alloc W _)⟩
theorem Dc.early {w : World} {hb t3 : Nat} {O : Obj} {k1 k2 k3 : Nat} {xs1 xs2 xs3 : List Value} {W : World} {a1 a2 a3 : Option Addr} {c1 c2 c3 : Nat} (h : Dk w hb O W) (hO : ∀ (cs : Array Value) (x : Nat × Nat), O ≠ .cells cs 54 x) (hz : w.heap.size < t3) (ht : W.heap[t3]? = some dmp0) (r1 : W.ownsRow w.heap.size 57 1 (.slice a1 k1 c1) k1 xs1) (r2 : W.ownsRow w.heap.size 59 2 (.slice a2 k2 c2) k2 xs2) (r3 : W.ownsRow w.heap.size 61 3 (.slice a3 k3 c3) k3 xs3) : Dc w hb O k1 xs1 k2 xs2 k3 xs3 t3 (setD W t3 (.slice a1 k1 c1) (.slice a2 k2 c2) (.slice a3 k3 c3) (.slice none 0 0) (.slice none 0 0)) := by
  have hne : hb ≠ t3 := fun e => by
    subst e
    rw [h.n] at ht
    exact hO _ _ (Option.some.inj ht)
  have hfar : ∀ k, k ≠ t3 → (setD W t3 (.slice a1 k1 c1) (.slice a2 k2 c2) (.slice a3 k3 c3) (.slice none 0 0) (.slice none 0 0)).heap[k]? = W.heap[k]? := fun k hk => setD_far W _ _ _ _ _ hk
  refine ⟨⟨setD_below h.b (by omega) _ _ _ _ _, (hfar _ (by omega)).trans h.x, (hfar _ hne).trans h.n⟩, hz, a1, c1, a2, c2, a3, c3, setD_at ht _ _ _ _ _, Dr.keep ⟨r1, r2, r3⟩ (fun k o hk hno _ => (hfar k (fun e => by subst e; rw [ht] at hk; exact hno _ _ (Option.some.inj hk).symm)).trans hk)⟩
/-- What lies in memory between the rounds of Dump. -/
structure Dl (w : World) (k1 : Nat) (xs1 : List Value) (k2 : Nat) (xs2 : List Value) (k3 : Nat) (xs3 : List Value) (t3 : Nat) (pre : List (Nat × ByteArray)) (W : World) : Prop where
  b : Below w.heap.size w W
  x : W.heap[w.heap.size]? = some dmp0
  lt : w.heap.size < t3
  r : ∃ a1 c1 a2 c2 a3 c3 ua uc, W.heap[t3]? = some (dmpO (.slice a1 k1 c1) (.slice a2 k2 c2) (.slice a3 k3 c3) (.slice ua pre.length uc) (.slice none 0 0)) ∧ Dr w.heap.size (.slice a1 k1 c1) k1 xs1 (.slice a2 k2 c2) k2 xs2 (.slice a3 k3 c3) k3 xs3 W ∧ W.ownsRow w.heap.size 9 1 (.slice ua pre.length uc) pre.length (pre.map fun x => Value.string x.2)
theorem Dl.nb {w W W' : World} {k1 k2 k3 t3 B : Nat} {xs1 xs2 xs3 : List Value} {pre : List (Nat × ByteArray)} (h : Dl w k1 xs1 k2 xs2 k3 xs3 t3 pre W) (hn : Nb B W W') (hB : w.heap.size ≤ B) : Dl w k1 xs1 k2 xs2 k3 xs3 t3 pre W' := by
  obtain ⟨a1, c1, a2, c2, a3, c3, ua, uc, h1, h2, h3⟩ := h.r
  refine ⟨hn.below h.b hB (Nat.le_refl _), hn.block _ _ h.x (Or.inr rfl), h.lt, a1, c1, a2, c2, a3, c3, ua, uc, hn.block _ _ h1 (Or.inr rfl), h2.keep (fun k o hk _ ho => hn.block k o hk (Or.inr ho)), row_keep h3 (fun k hk => ?_)⟩
  obtain ⟨cur, hc⟩ := row_obj h3 hk
  rw [hc]
  exact hn.block k _ hc (Or.inr rfl)
end Go.Proofs.YtnoggmeffindbabGreatDoor

/- Package cells: Dump where there are no names; Dump of a nil heap. -/
namespace Go.Proofs.YtnoggmeffindbabGreatDoor
open Go.RowKit Go.Shelf

attribute [local go_sem] Oper.semAt_some

/-- The heap's own cells, while Dump's first line runs. -/
abbrev Sk (hb : Nat) (v0 v2 v3 : Value) (w : World) : Prop := w.cell? ⟨hb, 0, none⟩ = some v0 ∧ w.cell? ⟨hb, 2, none⟩ = some v2 ∧ w.cell? ⟨hb, 3, none⟩ = some v3
theorem sk_dr {hb : Nat} {v0 v2 v3 : Value} {w : World} (h : Sk hb v0 v2 v3 w) : Sk hb v0 v2 v3 w.drew := h
theorem sk_al {hb : Nat} {v0 v2 v3 : Value} {w : World} {o : Obj} (h : Sk hb v0 v2 v3 w) : Sk hb v0 v2 v3 (w.alloc o) :=
  ⟨((below_alloc w o).cell (p := ⟨hb, 0, none⟩) (lt_of_cell h.1)).trans h.1, ((below_alloc w o).cell (p := ⟨hb, 2, none⟩) (lt_of_cell h.1)).trans h.2.1, ((below_alloc w o).cell (p := ⟨hb, 3, none⟩) (lt_of_cell h.1)).trans h.2.2⟩
theorem sk_set {hb t3 : Nat} {v0 v2 v3 : Value} {w : World} {a b c d e : Value} (hne : hb ≠ t3) (h : Sk hb v0 v2 v3 w) : Sk hb v0 v2 v3 (setD w t3 a b c d e) := by
  have hf : ∀ o, (setD w t3 a b c d e).cell? ⟨hb, o, none⟩ = w.cell? ⟨hb, o, none⟩ := fun o => World.cell?_of_block (w := w) (a := ⟨hb, o, none⟩) (setD_far w _ _ _ _ _ hne)
  exact ⟨(hf 0).trans h.1, (hf 2).trans h.2.1, (hf 3).trans h.2.2⟩
theorem Dk.ne {w W : World} {hb t3 : Nat} {ap tp : Option Addr} {trv ptv : Value} {n : Int} {cs : Array Value} (h : Dk w hb (hpO ap tp trv ptv n) W) (ht : W.heap[t3]? = some (.cells cs 54)) : hb ≠ t3 := obj_ne h.n ht (by decide)
/-- The end of Dump: the answer's box, behind what was deferred. -/
theorem dump_fin {w W : World} {k1 k2 k3 t3 D kn : Nat} {xs1 xs2 xs3 : List Value} {pre : List (Nat × ByteArray)} {a1 a2 a3 ua : Option Addr} {c1 c2 c3 uc : Nat} {xn : List Value} (h : Dl w k1 xs1 k2 xs2 k3 xs3 t3 pre W) (_ : W.heap[t3]? = some (dmpO (.slice a1 k1 c1) (.slice a2 k2 c2) (.slice a3 k3 c3) (.slice ua kn uc) (.slice none 0 0))) (h2 : Dr w.heap.size (.slice a1 k1 c1) k1 xs1 (.slice a2 k2 c2) k2 xs2 (.slice a3 k3 c3) k3 xs3 W) (h3 : W.ownsRow w.heap.size 9 1 (.slice ua kn uc) kn xn) (hK : W.heap[D]? = some (.deferred (some []))) (hD : w.heap.size < D) :
    (setD W w.heap.size (.slice a1 k1 c1) (.slice a2 k2 c2) (.slice a3 k3 c3) (.slice ua kn uc) (.slice none 0 0)).heap[D]? = some (.deferred (some [])) ∧
    ((setD W w.heap.size (.slice a1 k1 c1) (.slice a2 k2 c2) (.slice a3 k3 c3) (.slice ua kn uc) (.slice none 0 0)).putObj D (.deferred none)).heap[w.heap.size]? = some (dmpO (.slice a1 k1 c1) (.slice a2 k2 c2) (.slice a3 k3 c3) (.slice ua kn uc) (.slice none 0 0)) ∧
    (Dr w.heap.size (.slice a1 k1 c1) k1 xs1 (.slice a2 k2 c2) k2 xs2 (.slice a3 k3 c3) k3 xs3 ((setD W w.heap.size (.slice a1 k1 c1) (.slice a2 k2 c2) (.slice a3 k3 c3) (.slice ua kn uc) (.slice none 0 0)).putObj D (.deferred none)) ∧ ((setD W w.heap.size (.slice a1 k1 c1) (.slice a2 k2 c2) (.slice a3 k3 c3) (.slice ua kn uc) (.slice none 0 0)).putObj D (.deferred none)).ownsRow w.heap.size 9 1 (.slice ua kn uc) kn xn) ∧
    Below w.heap.size w ((setD W w.heap.size (.slice a1 k1 c1) (.slice a2 k2 c2) (.slice a3 k3 c3) (.slice ua kn uc) (.slice none 0 0)).putObj D (.deferred none)) := by
  have hfar : ∀ k, k ≠ w.heap.size → (setD W w.heap.size (.slice a1 k1 c1) (.slice a2 k2 c2) (.slice a3 k3 c3) (.slice ua kn uc) (.slice none 0 0)).heap[k]? = W.heap[k]? := fun k hk => setD_far W _ _ _ _ _ hk
  have hat := setD_at h.x (.slice a1 k1 c1) (.slice a2 k2 c2) (.slice a3 k3 c3) (.slice ua kn uc) (.slice none 0 0)
  have hbb := setD_below h.b (Nat.le_refl _) (.slice a1 k1 c1) (.slice a2 k2 c2) (.slice a3 k3 c3) (.slice ua kn uc) (.slice none 0 0)
  have hd2 : Dr w.heap.size (.slice a1 k1 c1) k1 xs1 (.slice a2 k2 c2) k2 xs2 (.slice a3 k3 c3) k3 xs3 (setD W w.heap.size (.slice a1 k1 c1) (.slice a2 k2 c2) (.slice a3 k3 c3) (.slice ua kn uc) (.slice none 0 0)) := h2.keep (fun k o hk hno _ => (hfar k (fun e => by subst e; rw [h.x] at hk; exact hno _ _ (Option.some.inj hk).symm)).trans hk)
  have hd3 : (setD W w.heap.size (.slice a1 k1 c1) (.slice a2 k2 c2) (.slice a3 k3 c3) (.slice ua kn uc) (.slice none 0 0)).ownsRow w.heap.size 9 1 (.slice ua kn uc) kn xn := row_keep h3 (fun k hk => hfar k (fun e => by
    subst e
    obtain ⟨cur, hc⟩ := row_obj h3 hk
    exact obj_ne h.x hc (by decide) rfl))
  generalize setD W w.heap.size (.slice a1 k1 c1) (.slice a2 k2 c2) (.slice a3 k3 c3) (.slice ua kn uc) (.slice none 0 0) = X at *
  have m9 : X.heap[D]? = some (.deferred (some [])) := (hfar D (by omega)).trans hK
  have n9 : Nb w.heap.size X (X.putObj D (.deferred none)) := Nb.put (.deferred none) (by omega) m9 rfl
  refine ⟨m9, n9.block _ _ hat (Or.inr rfl), ⟨hd2.keep (fun k o hk _ ho => n9.block k o hk (Or.inr ho)), row_keep hd3 (fun k hk => ?_)⟩, n9.below hbb (Nat.le_refl _) (Nat.le_refl _)⟩
  obtain ⟨cur, hc⟩ := row_obj hd3 hk
  rw [hc]
  exact n9.block k _ hc (Or.inr rfl)
set_option maxRecDepth 100000 in
set_option maxHeartbeats 8000000 in
theorem dump_none (hv : Value) (ap tp va : Option Addr) (vc : Nat) (ta : Option Addr) (tn tc : Nat) (pa : Option Addr) (pn pc : Nat) (n : Int) (k1 : Nat) (xs1 : List Value) (k2 : Nat) (xs2 : List Value) (k3 : Nat) (xs3 : List Value) (w : World)
    (hself : ∀ w1, Below w.heap.size w w1 → Calls Tryz.prog 48 #[hv] w1 fun e w' => ∃ hb, e = .returned (.pointer (some ⟨hb, 0, none⟩)) ∧ w'.heap[hb]? = some (hpO ap tp (.slice ta tn tc) (.slice pa pn pc) n) ∧ Below w1.heap.size w1 w')
    (hwd : ∀ w1, Below w.heap.size w w1 → Calls Tryz.prog 53 #[.pointer ap] w1 fun e w' => ∃ ao c, e = .returned (.slice ao k1 c) ∧ w'.ownsRow w.heap.size 57 1 (.slice ao k1 c) k1 xs1 ∧ Below w1.heap.size w1 w')
    (hc2 : ∀ w1, Below w.heap.size w w1 → Calls Tryz.prog 54 #[.slice ta tn tc] w1 fun e w' => ∃ ao c, e = .returned (.slice ao k2 c) ∧ w'.ownsRow w.heap.size 59 2 (.slice ao k2 c) k2 xs2 ∧ Below w1.heap.size w1 w')
    (hc3 : ∀ w1, Below w.heap.size w w1 → Calls Tryz.prog 55 #[.slice pa pn pc] w1 fun e w' => ∃ ao c, e = .returned (.slice ao k3 c) ∧ w'.ownsRow w.heap.size 61 3 (.slice ao k3 c) k3 xs3 ∧ Below w1.heap.size w1 w')
    (hall : ∀ w1, Below w.heap.size w w1 → Calls Tryz.prog 56 #[.pointer tp] w1 fun e w' => e = .returned (.func (.func 137) #[] #[.pointer (some ⟨w1.heap.size, 0, none⟩)]) ∧ w' = w1.alloc (.cells #[.slice va 0 vc] 51)) :
    Calls Tryz.prog 16 #[hv] w fun e w' => (∃ a1 c1 a2 c2 a3 c3 ua uc, e = .returned (.agg #[.slice a1 k1 c1, .slice a2 k2 c2, .slice a3 k3 c3, .slice ua 0 uc, .slice none 0 0]) ∧ Dr w.heap.size (.slice a1 k1 c1) k1 xs1 (.slice a2 k2 c2) k2 xs2 (.slice a3 k3 c3) k3 xs3 w' ∧ w'.ownsRow w.heap.size 9 1 (.slice ua 0 uc) 0 []) ∧ Below w.heap.size w w' := by
  have hb0 := hid (below_alloc w dmp0)
  have hx0 := hid (heap_alloc_new w dmp0)
  have Hself := hid hself
  have Hwd := hid hwd
  have Hc2 := hid hc2
  have Hc3 := hid hc3
  have Hall := hid hall
  clear hself hwd hc2 hc3 hall
  refine (callsIn_wide (n := 4)).1 ?_
  refine callsIn_of_wp_marks Tryz.func16 rfl trivial ?_ rfl
  simp only [Tryz.ntmps16, List.size_toArray, List.length_cons, List.length_nil, Nat.reduceAdd, Nat.reduceSub, Array.replicate_succ, Array.replicate_zero, List.push_toArray, List.append_toArray, List.nil_append, List.cons_append]
  refine wpIn_wide.2 ?_
  go_wp2_with (go_at_call 48; refine (Hself.out _ hb0.out).mono ?_; rintro e w1 ⟨hb, rfl, hx, hb1⟩; have HD : Hid (Dk w hb (hpO ap tp (.slice ta tn tc) (.slice pa pn pc) n) w1) := ⟨Below.next hb0.out hb1, (hb1.block _ (by simp)).trans hx0.out, hx⟩; obtain ⟨c0, c1, c2, c3, c5⟩ := HD.out.cells; have z1 := lt_of_block HD.out.x; clear hx hb1)
  go_cut [3] from 8 to 24 (fun s3 wc => ∃ t3, s3 = .pointer (some ⟨t3, 0, none⟩) ∧ Hid (Dc w hb (hpO ap tp (.slice ta tn tc) (.slice pa pn pc) n) k1 xs1 k2 xs2 k3 xs3 t3 wc))
  case first =>
    have hO : Hid (∀ (cs : Array Value) (x : Nat × Nat), hpO ap tp (.slice ta tn tc) (.slice pa pn pc) n ≠ .cells cs 54 x) := fun cs x e => by injection e with _ e; exact absurd e (by decide)
    go_region_held3 (fun w' => w'.cell? ⟨hb, 0, none⟩ = some (.pointer ap) ∧ w'.cell? ⟨hb, 2, none⟩ = some (.slice ta tn tc) ∧ w'.cell? ⟨hb, 3, none⟩ = some (.slice pa pn pc)) (first | (with_reducible exact ⟨c0, c2, c3⟩) | (with_reducible exact sk_al ⟨c0, c2, c3⟩) | (with_reducible exact sk_dr ⟨c0, c2, c3⟩) | (with_reducible exact sk_dr (sk_al ⟨c0, c2, c3⟩)) | (with_reducible exact sk_set hne ⟨c0, c2, c3⟩))
      (first
        | (go_at_call 53; refine (Hwd.out _ (by first | (with_reducible exact HD.out.drew.b) | (with_reducible exact (HD.out.next (below_alloc w1 dmp0)).drew.b))).mono ?_; rintro e w2 ⟨ao1, cc1, rfl, hr1, hb2⟩; have hb3 : Below w1.heap.size w1 w2 := (by first | (with_reducible exact Below.next (Below.refl _ w1).drew hb2) | (with_reducible exact Below.next (Below.next (below_alloc w1 dmp0) (Below.refl _ (w1.alloc dmp0)).drew) hb2)); have zb2 := hb3.size; have HR1 := hid hr1; (try (have hbT : Below (World.alloc w1 dmp0).drew.heap.size (World.alloc w1 dmp0).drew w2 := (by with_reducible exact hb2); have HT := hid ((hbT.block _ (by show w1.heap.size < (w1.alloc dmp0).heap.size; simp)).trans (heap_alloc_new w1 dmp0)); clear hbT; obtain ⟨⟨y0, y1, y2, y3, y4⟩, ⟨f0, f1, f2, f3, f4⟩, yz⟩ := cel_cells HT.out)); replace HD := hid (HD.out.next hb3); (try (have hne := HD.out.ne HT.out)); clear hb2 hr1 hb3 c0 c1 c2 c3 c5; obtain ⟨c0, c1, c2, c3, c5⟩ := HD.out.cells)
        | (go_at_call 54; refine (Hc2.out _ (by first | (with_reducible exact HD.out.b) | (with_reducible exact (HD.out.next (below_alloc w2 dmp0)).b))).mono ?_; rintro e w3 ⟨ao2, cc2, rfl, hr1, hb2⟩; have hb3 : Below w2.heap.size w2 w3 := (by first | (with_reducible exact hb2) | (with_reducible exact Below.next (below_alloc w2 dmp0) hb2)); have zb3 := hb3.size; have HR2 := hid hr1; replace HR1 := hid (row_below HR1.out hb3); (try (replace HT := hid ((hb3.block _ (lt_of_block HT.out)).trans HT.out); clear y0 y1 y2 y3 y4 f0 f1 f2 f3 f4 yz; obtain ⟨⟨y0, y1, y2, y3, y4⟩, ⟨f0, f1, f2, f3, f4⟩, yz⟩ := cel_cells HT.out)); (try (have hbT : Below (World.alloc w2 dmp0).heap.size (World.alloc w2 dmp0) w3 := (by with_reducible exact hb2); have HT := hid ((hbT.block _ (by simp)).trans (heap_alloc_new w2 dmp0)); clear hbT; obtain ⟨⟨y0, y1, y2, y3, y4⟩, ⟨f0, f1, f2, f3, f4⟩, yz⟩ := cel_cells HT.out)); replace HD := hid (HD.out.next hb3); (try (have hne := HD.out.ne HT.out)); clear hb2 hr1 hb3 c0 c1 c2 c3 c5; obtain ⟨c0, c1, c2, c3, c5⟩ := HD.out.cells)
        | (go_at_call 55; refine (Hc3.out _ (by first | (with_reducible exact HD.out.b) | (with_reducible exact (HD.out.next (below_alloc w3 dmp0)).b))).mono ?_; rintro e w4 ⟨ao3, cc3, rfl, hr1, hb2⟩; have hb3 : Below w3.heap.size w3 w4 := (by first | (with_reducible exact hb2) | (with_reducible exact Below.next (below_alloc w3 dmp0) hb2)); have zb4 := hb3.size; have HR3 := hid hr1; replace HR1 := hid (row_below HR1.out hb3); replace HR2 := hid (row_below HR2.out hb3); (try (replace HT := hid ((hb3.block _ (lt_of_block HT.out)).trans HT.out); clear y0 y1 y2 y3 y4 f0 f1 f2 f3 f4 yz; obtain ⟨⟨y0, y1, y2, y3, y4⟩, ⟨f0, f1, f2, f3, f4⟩, yz⟩ := cel_cells HT.out)); (try (have hbT : Below (World.alloc w3 dmp0).heap.size (World.alloc w3 dmp0) w4 := (by with_reducible exact hb2); have HT := hid ((hbT.block _ (by simp)).trans (heap_alloc_new w3 dmp0)); clear hbT; obtain ⟨⟨y0, y1, y2, y3, y4⟩, ⟨f0, f1, f2, f3, f4⟩, yz⟩ := cel_cells HT.out)); replace HD := hid (HD.out.next hb3); (try (have hne := HD.out.ne HT.out)); clear hb2 hr1 hb3 c0 c1 c2 c3 c5; obtain ⟨c0, c1, c2, c3, c5⟩ := HD.out.cells))
    all_goals go_wp2_with fail
    all_goals go_meet
    all_goals first
      | exact ⟨_, rfl, Dc.late HD.out (by have := lt_of_block HD.out.x; omega) HR1.out HR2.out HR3.out⟩
      | exact ⟨_, rfl, Dc.early HD.out hO.out (by omega) HT.out HR1.out HR2.out HR3.out⟩
  case rest =>
    obtain ⟨t3, rfl, hW⟩ := hcut
    obtain ⟨c0', c1', c2', c3', c5'⟩ := hW.out.d.cells
    go_wp2_with (go_at_call 56; refine (Hall.out _ hW.out.d.b).mono ?_; rintro e w6 ⟨rfl, hw⟩; subst hw)
    refine (wpIn_wide (n := 4)).1 ?_
    obtain ⟨W0, hW0⟩ : ∃ W0, wc.alloc (.cells #[.slice va 0 vc] 51) = W0 := ⟨_, rfl⟩
    have hbx : W0.heap[wc.heap.size]? = some (.cells #[.slice va 0 vc] 51) := by rw [← hW0]; exact heap_alloc_new wc _
    have hb6 : Below wc.heap.size wc W0 := by rw [← hW0]; exact below_alloc wc _
    have hz0 : W0.heap.size = wc.heap.size + 1 := by rw [← hW0]; simp
    have hI0 : Hid (Dl w k1 xs1 k2 xs2 k3 xs3 t3 [] W0) := by
      obtain ⟨a1, e1, a2, e2, a3, e3, h1, h2⟩ := hW.out.r
      refine ⟨Below.next hW.out.d.b hb6, (hb6.block _ (lt_of_block hW.out.d.x)).trans hW.out.d.x, hW.out.lt, a1, e1, a2, e2, a3, e3, none, 0, (hb6.block _ (lt_of_block h1)).trans h1, ⟨row_below h2.r1 hb6, row_below h2.r2 hb6, row_below h2.r3 hb6⟩, World.ownsRow_nil _ _ _ _⟩
    have hzx : w.heap.size < W0.heap.size := lt_of_block hI0.out.x
    have hzw : w.heap.size ≤ W0.heap.size := hI0.out.b.size
    rw [hW0]
    clear hW0 hW c0' c1' c2' c3' c5' c0 c1 c2 c3 c5
    refine range_toldP (Ks := fun k => k = wc.heap.size) (encs := encA) rfl (enters_of Tryz.func137 (by kernel_rfl) rfl) (fun _ => rfl) (by omega) (fun k hk => by subst hk; omega) (sall_tells0 va vc 3 _ wc.heap.size W0 hbx)
      (I := Dl w k1 xs1 k2 xs2 k3 xs3 t3) (Ix := fun _ _ _ => False) (fun pre A A' h hn => h.nb hn hzw) (fun c pre A A' h hn => h) (fun pre x A A' h hn => h) hI0.out
      (Ax := fun _ _ _ => True) (fun _ _ _ _ h _ => h) ?assign ?body ?done ?stop
    case assign =>
      intro l x W' K hzl hK
      simp only [encA]
      gi_wp2
      exact hK _ _ (Below.refl _ _) trivial
    case body =>
      rintro l pre x a' W' hi ht _
      exact absurd ht.2.1 (by simp)
    case done =>
      rintro D2 xs W' hD hS hi hK
      subst hS
      obtain ⟨a1, e1, a2, e2, a3, e3, ua, uc, h1, h2, h3⟩ := hi.r
      simp only [List.length_nil, List.map_nil] at h1 h3
      obtain ⟨⟨q0, q1, q2, q3, q4⟩, _, qz⟩ := cel_cells h1
      obtain ⟨⟨x0, x1, x2, x3, x4⟩, ⟨y0, y1, y2, y3, y4⟩, xz⟩ := cel_cells hi.x
      have HF := hid (dump_fin hi h1 h2 h3 hK (by omega))
      clear hi h1 h2 h3 hK
      go_wp2
      obtain ⟨m9, q9, r9, b9⟩ := HF.out
      exact ⟨by simp, .inl ⟨_, _, rfl, run_takeDeferred m9, _, ret_dmp Tryz.results16 (by rfl) q9, ⟨_, _, _, _, _, _, _, _, rfl, r9⟩, b9⟩⟩
    case stop =>
      rintro D2 c pre W' _ h _
      exact h.elim
theorem svclone_nil (w : World) : Calls Tryz.prog 54 #[.slice none 0 0] w fun e w' => ∃ ao c, e = .returned (.slice ao 0 c) ∧ w'.ownsRow w.heap.size 59 2 (.slice ao 0 c) 0 [] ∧ Below w.heap.size w w' :=
  svclone_any (World.ownsRow_nil w w.heap.size _ _) (fun u hu => by cases hu) (by omega)
theorem mkclone_nil (w : World) : Calls Tryz.prog 55 #[.slice none 0 0] w fun e w' => ∃ ao c, e = .returned (.slice ao 0 c) ∧ w'.ownsRow w.heap.size 61 3 (.slice ao 0 c) 0 [] ∧ Below w.heap.size w w' :=
  mkclone_any (World.ownsRow_nil w w.heap.size _ _) (fun u hu => by cases hu) (by omega)
theorem dump_nil (w : World) :
    Calls Tryz.prog 16 #[.pointer none] w fun e w' => (∃ a1 c1 a2 c2 a3 c3 ua uc, e = .returned (.agg #[.slice a1 0 c1, .slice a2 0 c2, .slice a3 0 c3, .slice ua 0 uc, .slice none 0 0])) ∧ Below w.heap.size w w' := by
  refine (dump_none (.pointer none) none none none 0 none 0 0 none 0 0 0 0 [] 0 [] 0 [] w (fun w1 _ => self_nil w1) (fun w1 _ => (words_nil w1).mono ?_) (fun w1 hb => (svclone_nil w1).mono ?_) (fun w1 hb => (mkclone_nil w1).mono ?_) (fun w1 _ => all_nil w1)).mono ?_
  · rintro e w' ⟨rfl, rfl⟩
    exact ⟨none, 0, rfl, World.ownsRow_nil _ _ _ _, Below.refl _ _⟩
  · rintro e w' ⟨ao, c, rfl, hr, hb'⟩
    exact ⟨ao, c, rfl, own_base hr hb.size, hb'⟩
  · rintro e w' ⟨ao, c, rfl, hr, hb'⟩
    exact ⟨ao, c, rfl, own_base hr hb.size, hb'⟩
  · rintro e w' ⟨⟨a1, c1, a2, c2, a3, c3, ua, uc, rfl, _⟩, hb⟩
    exact ⟨⟨a1, c1, a2, c2, a3, c3, ua, uc, rfl⟩, hb⟩
end Go.Proofs.YtnoggmeffindbabGreatDoor
