/- usersOf of package bisim: for each place and each node the compounds that have it there. -/
import Derived.Test.YtgmldkojldlekaaGreatDoorSR16Z
import Derived.Test.YtgmldkojldlekaaGreatDoorSR09Z
import Derived.Test.YtgmldkojldlekaaGreatDoorSR02Z
namespace Go.Proofs.YtgmldkojldlekaaGreatDoor
set_option maxRecDepth 100000
open Go.RowKit
theorem infoIS : (Tryz.prog.info? 28).map (fun i => (i.zero, i.size, i.bytes)) = some (some (.slice none 0 0), 1, 24) := by kernel_rfl
theorem infoISS : (Tryz.prog.info? 217).map (fun i => (i.zero, i.size, i.bytes)) = some (some (.slice none 0 0), 1, 24) := by kernel_rfl
def rowV (N : Nat) (vs : Nat → Value) : Array Value := (Array.range N).map vs
theorem rowV_at {N a : Nat} (vs : Nat → Value) (h : a < N) : (rowV N vs)[a]? = some (vs a) := by simp [rowV, h]
theorem rowV_set (N a : Nat) (vs : Nat → Value) (x : Value) : (rowV N vs).setIfInBounds a x = rowV N (upd vs a x) := by
  unfold rowV
  apply Array.ext
  · simp
  · intro i h1 h2
    have hi : i < (Array.map vs (Array.range N)).size := by simpa using h1
    rw [Array.getElem_setIfInBounds hi]
    simp only [Array.getElem_map, Array.getElem_range, upd]
    by_cases e : a = i
    · rw [if_pos e, if_pos e.symm]
    · rw [if_neg e, if_neg (fun e' => e e'.symm)]
theorem made_rows (N : Nat) : madeCells #[.slice none 0 0] N = rowV N (fun _ => .slice none 0 0) := by
  apply Array.ext
  · simp [size_madeCells, rowV]
  · intro i h1 h2
    simp [madeCells, rowV, Nat.mod_one]
theorem make_rows (N : Nat) (hN : N ≤ 5000) (w : World) :
    (Instr.makeSlice 217 (.int .i64 (N : Int)) (.int .i64 (N : Int))).run Tryz.prog w = .ok (.slice (some ⟨w.heap.size, 0, none⟩) N N) (w.alloc (.cells (rowV N (fun _ => .slice none 0 0)) 28)) := by
  obtain ⟨i0, hi, hz0, hz1, hz2⟩ := info_parts infoIS
  have := run_make (P := Tryz.prog) w 217 28 i0 (.slice none 0 0) Tryz.underlying217 hi hz0 .i64 .i64 (N : Int) (N : Int) (by omega) (by omega) (by rw [hz2]; omega) (by omega)
  rw [this, hz1]
  simp only [Int.toNat_natCast, Nat.mul_one]
  rw [← made_rows]
  rfl
theorem make_tops (w : World) :
    (Instr.makeSlice 215 (.int .i64 8) (.int .i64 8)).run Tryz.prog w = .ok (.slice (some ⟨w.heap.size, 0, none⟩) 8 8) (w.alloc (.cells (rowV 8 (fun _ => .slice none 0 0)) 217)) := by
  obtain ⟨i0, hi, hz0, hz1, hz2⟩ := info_parts infoISS
  have := run_make (P := Tryz.prog) w 215 217 i0 (.slice none 0 0) Tryz.underlying215 hi hz0 .i64 .i64 8 8 (by omega) (by omega) (by rw [hz2]; omega) (by omega)
  rw [this, hz1]
  rw [← made_rows]
  rfl
def usrF (l : List Nd) (k : Nat) (a : Int) (m : Nat) : List Nat := (List.range m).filter (fun n => decide (k < (l.getD n nd0).args.length) && decide ((l.getD n nd0).args.getD k 0 = a))
theorem usrF_succ (l : List Nd) (k : Nat) (a : Int) (m : Nat) : usrF l k a (m + 1) = usrF l k a m ++ (if k < (l.getD m nd0).args.length ∧ (l.getD m nd0).args.getD k 0 = a then [m] else []) := by
  unfold usrF
  rw [List.range_succ, List.filter_append]
  congr 1
  by_cases h : k < (l.getD m nd0).args.length ∧ (l.getD m nd0).args.getD k 0 = a
  · rw [if_pos h]
    simp only [List.filter_cons, List.filter_nil, h.1, h.2, decide_true, Bool.and_self, if_true]
  · rw [if_neg h]
    have : (decide (k < (l.getD m nd0).args.length) && decide ((l.getD m nd0).args.getD k 0 = a)) = false := by
      rw [Bool.and_eq_false_iff]
      by_cases h1 : k < (l.getD m nd0).args.length
      · exact Or.inr (by simpa using fun h2 => h ⟨h1, h2⟩)
      · exact Or.inl (by simpa using h1)
    simp only [List.filter_cons, List.filter_nil, this]
    rfl
theorem usrF_mem {l : List Nd} {k m n : Nat} {a : Int} : n ∈ usrF l k a m ↔ n < m ∧ k < (l.getD n nd0).args.length ∧ (l.getD n nd0).args.getD k 0 = a := by
  unfold usrF
  rw [List.mem_filter, List.mem_range, Bool.and_eq_true, decide_eq_true_eq, decide_eq_true_eq]
theorem usrF_nodup (l : List Nd) (k : Nat) (a : Int) (m : Nat) : (usrF l k a m).Nodup := List.Sublist.nodup List.filter_sublist List.nodup_range
theorem usrF_len (l : List Nd) (k : Nat) (a : Int) (m : Nat) : (usrF l k a m).length ≤ m := fewer (usrF_nodup l k a m) (fun _ h => (usrF_mem.1 h).1)
def stF (l : List Nd) (m j k : Nat) (a : Nat) : List Nat := if k < j then usrF l k (a : Int) (m + 1) else usrF l k (a : Int) m
structure Ub (w : World) (B ub N : Nat) (b : Nat → Nat) (vs : Nat → Nat → Value) (F : Nat → Nat → List Nat) : Prop where
  top : w.heap[ub]? = some (.cells (rowV 8 (fun k => .slice (some ⟨b k, 0, none⟩) N N)) 217 (0, 0))
  row : ∀ k, k < 8 → w.heap[b k]? = some (.cells (rowV N (vs k)) 28 (0, 0))
  own : ∀ k a, k < 8 → a < N → w.ownsRow B 3 1 (vs k a) (F k a).length ((ints (F k a)).map (Value.int .i64))
  bnd : ∀ k k', k < 8 → k' < 8 → k ≠ k' → b k ≠ b k'
  nd : ∀ k a k' a', k < 8 → a < N → k' < 8 → a' < N → (k ≠ k' ∨ a ≠ a') → ∀ p q, (vs k a).ownBlock = some p → (vs k' a').ownBlock = some q → p ≠ q
  ge : B ≤ ub ∧ ∀ k, k < 8 → B ≤ b k
theorem Ub.congr {w : World} {B ub N : Nat} {b : Nat → Nat} {vs : Nat → Nat → Value} {F F' : Nat → Nat → List Nat} (h : Ub w B ub N b vs F) (e : ∀ k a, k < 8 → a < N → F k a = F' k a) : Ub w B ub N b vs F' :=
  ⟨h.top, h.row, fun k a hk ha => by rw [← e k a hk ha]; exact h.own k a hk ha, h.bnd, h.nd, h.ge⟩
theorem Ub.keep {w w' : World} {B ub N : Nat} {b : Nat → Nat} {vs : Nat → Nat → Value} {F : Nat → Nat → List Nat} (h : Ub w B ub N b vs F) (hb : Below w.heap.size w w') : Ub w' B ub N b vs F :=
  ⟨by rw [hb.block ub (lt_of_block h.top)]; exact h.top, fun k hk => by rw [hb.block _ (lt_of_block (h.row k hk))]; exact h.row k hk, fun k a hk ha => own_below (h.own k a hk ha) hb, h.bnd, h.nd, h.ge⟩
theorem Ub.far {w w2 : World} {B ub N k a : Nat} {o : Obj} {b : Nat → Nat} {vs : Nat → Nat → Value} {F : Nat → Nat → List Nat} (h : Ub w B ub N b vs F) (hk : k < 8) (ha : a < N) (hgr : (w.alloc o).grownBy w2 (vs k a).ownBlock) : w2.cell? ⟨b k, a, none⟩ = some (vs k a) ∧ w2.frozen? ⟨b k, a, none⟩ = false ∧ w2.cell? ⟨ub, k, none⟩ = some (.slice (some ⟨b k, 0, none⟩) N N) := by
  have h1 : w2.heap[b k]? = some (.cells (rowV N (vs k)) 28 (0, 0)) := by
    have hl := lt_of_block (h.row k hk)
    rw [hgr.block (b k) (by simp; omega) (fun e => ?_), Below.heap_alloc _ _ _ hl]
    · exact h.row k hk
    · obtain ⟨cur, h1, _⟩ := own_block_obj (h.own k a hk ha) e.symm
      rw [h.row k hk] at h1
      simp at h1
  have h2 : w2.heap[ub]? = some (.cells (rowV 8 (fun k => .slice (some ⟨b k, 0, none⟩) N N)) 217 (0, 0)) := by
    have hl := lt_of_block h.top
    rw [hgr.block ub (by simp; omega) (fun e => ?_), Below.heap_alloc _ _ _ hl]
    · exact h.top
    · obtain ⟨cur, h1, _⟩ := own_block_obj (h.own k a hk ha) e.symm
      rw [h.top] at h1
      simp at h1
  refine ⟨?_, by simp [World.frozen?, h1], ?_⟩
  · rw [cell_of_row w2 _ a _ _ _ h1]
    exact rowV_at _ ha
  · rw [cell_of_row w2 _ k _ _ _ h2]
    exact rowV_at _ hk
theorem Ub.push {w w2 : World} {B ub N k a n g cap : Nat} {o : Obj} {b : Nat → Nat} {vs : Nat → Nat → Value} {F : Nat → Nat → List Nat} (h : Ub w B ub N b vs F) (hk : k < 8) (ha : a < N)
    (hown : w2.ownsRow B 3 1 (.slice (some ⟨g, 0, none⟩) ((F k a).length + 1) cap) ((F k a).length + 1) ((ints (F k a)).map (Value.int .i64) ++ [.int .i64 (n : Int)])) (hgr : (w.alloc o).grownBy w2 (vs k a).ownBlock) (hat : (vs k a).ownBlock = some g ∨ g = w.heap.size + 1) :
    Ub (w2.setCell ⟨b k, a, none⟩ (.slice (some ⟨g, 0, none⟩) ((F k a).length + 1) cap)) B ub N b (upd vs k (upd (vs k) a (.slice (some ⟨g, 0, none⟩) ((F k a).length + 1) cap))) (upd F k (upd (F k) a (F k a ++ [n]))) := by
  have hty : ∀ k' a' p, k' < 8 → a' < N → (vs k' a').ownBlock = some p → ∀ cs T, w.heap[p]? = some (.cells cs T (0, 0)) → T = 3 := fun k' a' p hk' ha' e cs T hc => by
    obtain ⟨cur, h1, _⟩ := own_block_obj (h.own k' a' hk' ha') e
    rw [hc] at h1
    simp at h1
    exact h1.2
  have hold : ∀ q, q < w.heap.size → (vs k a).ownBlock ≠ some q → w2.heap[q]? = w.heap[q]? := fun q hq hne => by
    rw [hgr.block q (by simp; omega) (fun e => hne e.symm), Below.heap_alloc _ _ _ hq]
  have htop : w2.heap[ub]? = some (.cells (rowV 8 (fun k => .slice (some ⟨b k, 0, none⟩) N N)) 217 (0, 0)) := by
    rw [hold ub (lt_of_block h.top) (fun e => absurd (hty k a ub hk ha e _ _ h.top) (by decide))]
    exact h.top
  have hrow : ∀ k', k' < 8 → w2.heap[b k']? = some (.cells (rowV N (vs k')) 28 (0, 0)) := fun k' hk' => by
    rw [hold _ (lt_of_block (h.row k' hk')) (fun e => absurd (hty k a _ hk ha e _ _ (h.row k' hk')) (by decide))]
    exact h.row k' hk'
  have hub : ub ≠ b k := fun e => by
    have h1 := h.top
    rw [e, h.row k hk] at h1
    simp at h1
  have hgb : g ≠ b k := fun e => by
    obtain ⟨cur, h1, _⟩ := own_block_obj hown (q := g) rfl
    rw [e, hrow k hk] at h1
    simp at h1
  have hnew : ∀ k' a' p, k' < 8 → a' < N → (k' ≠ k ∨ a' ≠ a) → (vs k' a').ownBlock = some p → p ≠ g := fun k' a' p hk' ha' hne e e' => by
    rcases hat with h1 | h1
    · exact h.nd k' a' k a hk' ha' hk ha hne p g e h1 e'
    · have := ((h.own k' a' hk' ha').lt p e).2
      omega
  have us : ∀ k' a', k' = k → a' = a → upd vs k (upd (vs k) a (.slice (some ⟨g, 0, none⟩) ((F k a).length + 1) cap)) k' a' = .slice (some ⟨g, 0, none⟩) ((F k a).length + 1) cap := fun k' a' e1 e2 => by
    subst e1 e2
    rw [upd_same, upd_same]
  have uo : ∀ k' a', (k' ≠ k ∨ a' ≠ a) → upd vs k (upd (vs k) a (.slice (some ⟨g, 0, none⟩) ((F k a).length + 1) cap)) k' a' = vs k' a' := fun k' a' e => by
    by_cases e1 : k' = k
    · subst e1
      rw [upd_same, upd_other _ _ (e.resolve_left (fun h => h rfl))]
    · rw [upd_other _ _ e1]
  have fo : ∀ k' a', (k' ≠ k ∨ a' ≠ a) → upd F k (upd (F k) a (F k a ++ [n])) k' a' = F k' a' := fun k' a' e => by
    by_cases e1 : k' = k
    · subst e1
      rw [upd_same, upd_other _ _ (e.resolve_left (fun h => h rfl))]
    · rw [upd_other _ _ e1]
  refine ⟨?_, fun k' hk' => ?_, fun k' a' hk' ha' => ?_, h.bnd, fun k1 a1 k2 a2 hk1 ha1 hk2 ha2 hne p q hp hq => ?_, h.ge⟩
  · rw [Below.heap_setCell _ _ _ _ hub]
    exact htop
  · by_cases e : k' = k
    · subst e
      rw [upd_same, ← rowV_set]
      exact heap_setCell_same w2 _ a _ _ _ (hrow k' hk')
    · rw [upd_other _ _ e, Below.heap_setCell _ _ _ _ (h.bnd k' k hk' hk e)]
      exact hrow k' hk'
  · by_cases e : k' = k ∧ a' = a
    · obtain ⟨e1, e2⟩ := e
      rw [us k' a' e1 e2]
      subst e1 e2
      rw [upd_same, upd_same, ints_snoc, List.map_append, List.length_append, List.length_singleton]
      refine own_block hown (fun p e => Below.heap_setCell _ _ _ _ (fun e' => hgb ?_))
      have e1 : g = p := by simpa [Value.ownBlock] using e
      exact e1.trans e'
    · have e' : k' ≠ k ∨ a' ≠ a := by
        by_cases e1 : k' = k
        · exact Or.inr (fun e2 => e ⟨e1, e2⟩)
        · exact Or.inl e1
      rw [uo k' a' e', fo k' a' e']
      refine own_block (h.own k' a' hk' ha') (fun p ep => ?_)
      have hp := ((h.own k' a' hk' ha').lt p ep).2
      rw [Below.heap_setCell _ _ _ _ (fun e2 => absurd (hty k' a' p hk' ha' ep _ _ (by
        have e3 : p = b k := e2
        rw [e3]
        exact h.row k hk)) (by decide))]
      exact hold p hp (fun e2 => h.nd k' a' k a hk' ha' hk ha e' p p ep e2 rfl)
  · by_cases e1 : k1 = k ∧ a1 = a
    · rw [us k1 a1 e1.1 e1.2] at hp
      have ep : g = p := by simpa [Value.ownBlock] using hp
      have hne2 : k2 ≠ k ∨ a2 ≠ a := by
        rcases hne with h1 | h1
        · exact Or.inl (fun e => h1 (by rw [e1.1, e]))
        · exact Or.inr (fun e => h1 (by rw [e1.2, e]))
      rw [uo k2 a2 hne2] at hq
      exact fun e => hnew k2 a2 q hk2 ha2 hne2 hq (by omega)
    · have e1' : k1 ≠ k ∨ a1 ≠ a := by
        by_cases e2 : k1 = k
        · exact Or.inr (fun e3 => e1 ⟨e2, e3⟩)
        · exact Or.inl e2
      rw [uo k1 a1 e1'] at hp
      by_cases e2 : k2 = k ∧ a2 = a
      · rw [us k2 a2 e2.1 e2.2] at hq
        have eq' : g = q := by simpa [Value.ownBlock] using hq
        exact fun e => hnew k1 a1 p hk1 ha1 e1' hp (by omega)
      · have e2' : k2 ≠ k ∨ a2 ≠ a := by
          by_cases e3 : k2 = k
          · exact Or.inr (fun e4 => e2 ⟨e3, e4⟩)
          · exact Or.inl e3
        rw [uo k2 a2 e2'] at hq
        exact h.nd k1 a1 k2 a2 hk1 ha1 hk2 ha2 hne p q hp hq
structure U1 (W w : World) (N k : Nat) : Prop where
  b : Below W.heap.size W w
  top : w.heap[W.heap.size]? = some (.cells (rowV 8 (fun j => if j < k then .slice (some ⟨W.heap.size + 1 + j, 0, none⟩) N N else .slice none 0 0)) 217 (0, 0))
  row : ∀ j, j < k → w.heap[W.heap.size + 1 + j]? = some (.cells (rowV N (fun _ => .slice none 0 0)) 28 (0, 0))
  size : w.heap.size = W.heap.size + 1 + k
theorem U1.start (W : World) (N : Nat) : U1 W (W.alloc (.cells (rowV 8 (fun _ => .slice none 0 0)) 217)) N 0 := by
  refine ⟨below_alloc W _, ?_, fun j hj => absurd hj (Nat.not_lt_zero _), by simp⟩
  rw [heap_alloc_new]
  simp
theorem U1.step {W w : World} {N k : Nat} (h : U1 W w N k) : U1 W ((w.alloc (.cells (rowV N (fun _ => .slice none 0 0)) 28)).setCell ⟨W.heap.size, k, none⟩ (.slice (some ⟨w.heap.size, 0, none⟩) N N)) N (k + 1) := by
  have hs := h.size
  refine ⟨(h.b.alloc h.b.size _).setCell (Nat.le_refl _) _, ?_, fun j hj => ?_, by simp; omega⟩
  · have h1 : (w.alloc (.cells (rowV N (fun _ => .slice none 0 0)) 28)).heap[W.heap.size]? = some (.cells (rowV 8 (fun j => if j < k then .slice (some ⟨W.heap.size + 1 + j, 0, none⟩) N N else .slice none 0 0)) 217 (0, 0)) := by
      rw [Below.heap_alloc _ _ _ (by omega)]
      exact h.top
    rw [heap_setCell_same _ _ k _ _ _ h1, rowV_set]
    congr 3
    funext j
    unfold upd
    dsimp only
    by_cases e : j = k
    · rw [if_pos e, if_pos (by omega), e, hs]
    · rw [if_neg e]
      by_cases e1 : j < k
      · rw [if_pos e1, if_pos (by omega)]
      · rw [if_neg e1, if_neg (by omega)]
  · rw [Below.heap_setCell _ _ _ _ (by show W.heap.size + 1 + j ≠ W.heap.size; omega)]
    by_cases e : j = k
    · rw [e, ← hs]
      exact heap_alloc_new w _
    · rw [Below.heap_alloc _ _ _ (by omega)]
      exact h.row j (by omega)
theorem U1.last {W w : World} {N : Nat} (h : U1 W w N 8) : Ub w W.heap.size W.heap.size N (fun k => W.heap.size + 1 + k) (fun _ _ => .slice none 0 0) (fun _ _ => []) := by
  refine ⟨?_, fun k hk => h.row k hk, fun k a _ _ => World.ownsRow_nil _ _ _ _, fun k k' _ _ hne => by omega, fun _ _ _ _ _ _ _ _ _ p q hp _ => by simp [Value.ownBlock] at hp, Nat.le_refl _, fun k _ => by omega⟩
  rw [h.top]
  congr 2
  unfold rowV
  apply Array.map_congr_left
  intro j hj
  have := Array.mem_range.1 hj
  rw [if_pos this]
end Go.Proofs.YtgmldkojldlekaaGreatDoor

namespace Go.Proofs.YtgmldkojldlekaaGreatDoor
set_option maxRecDepth 100000
open Go.RowKit
def fnd (p : Nat → Bool) : List Nat → Nat
  | [] => 0
  | x :: r => if p x then 0 else fnd p r + 1
theorem fnd_le (p : Nat → Bool) : ∀ l, fnd p l ≤ l.length
  | [] => Nat.le_refl _
  | x :: r => by
    have := fnd_le p r
    unfold fnd
    split
    · exact Nat.zero_le _
    · simp only [List.length_cons]
      omega
theorem fnd_hit {p : Nat → Bool} : ∀ {l : List Nat}, fnd p l < l.length → p (l.getD (fnd p l) 0) = true
  | [], h => absurd h (Nat.not_lt_zero _)
  | x :: r, h => by
    unfold fnd at h ⊢
    by_cases e : p x = true
    · rw [if_pos e]
      simpa using e
    · rw [if_neg e] at h ⊢
      have := fnd_hit (p := p) (l := r) (by simpa using h)
      simpa using this
theorem fnd_none {p : Nat → Bool} : ∀ {l : List Nat}, fnd p l = l.length → ∀ x ∈ l, p x = false
  | [], _ => by simp
  | x :: r, h => by
    unfold fnd at h
    by_cases e : p x = true
    · rw [if_pos e] at h
      simp at h
    · rw [if_neg e] at h
      intro y hy
      rcases List.mem_cons.1 hy with h1 | h1
      · rw [h1]
        simpa using e
      · exact fnd_none (by simpa using h) y h1
theorem fnd_congr {p q : Nat → Bool} : ∀ {l : List Nat}, (∀ x ∈ l, p x = q x) → fnd p l = fnd q l
  | [], _ => rfl
  | x :: r, h => by
    unfold fnd
    rw [h x (by simp), fnd_congr (fun y hy => h y (by simp [hy]))]
def numF (e : Nat → Nat → Bool) : Nat → List Nat × List Nat
  | 0 => ([], [])
  | m + 1 => ((numF e m).1 ++ [fnd (e m) (numF e m).2], if fnd (e m) (numF e m).2 = (numF e m).2.length then (numF e m).2 ++ [m] else (numF e m).2)
abbrev csF (e : Nat → Nat → Bool) (m : Nat) : List Nat := (numF e m).1
abbrev lsF (e : Nat → Nat → Bool) (m : Nat) : List Nat := (numF e m).2
theorem csF_succ (e : Nat → Nat → Bool) (m : Nat) : csF e (m + 1) = csF e m ++ [fnd (e m) (lsF e m)] := rfl
theorem lsF_succ (e : Nat → Nat → Bool) (m : Nat) : lsF e (m + 1) = if fnd (e m) (lsF e m) = (lsF e m).length then lsF e m ++ [m] else lsF e m := rfl
theorem csF_len (e : Nat → Nat → Bool) : ∀ m, (csF e m).length = m
  | 0 => rfl
  | m + 1 => by rw [csF_succ, List.length_append, csF_len e m]; rfl
theorem lsF_lt (e : Nat → Nat → Bool) : ∀ m, ∀ l ∈ lsF e m, l < m
  | 0 => by simp [lsF, numF]
  | m + 1 => by
    intro l hl
    rw [lsF_succ] at hl
    split at hl
    · rcases List.mem_append.1 hl with h | h
      · have := lsF_lt e m l h
        omega
      · have : l = m := by simpa using h
        omega
    · have := lsF_lt e m l hl
      omega
theorem lsF_le (e : Nat → Nat → Bool) : ∀ m, (lsF e m).length ≤ m
  | 0 => Nat.le_refl _
  | m + 1 => by
    have := lsF_le e m
    rw [lsF_succ]
    split
    · rw [List.length_append, List.length_singleton]
      omega
    · omega
theorem numF_congr {e e' : Nat → Nat → Bool} : ∀ m, (∀ x y, x < m → y < m → e x y = e' x y) → numF e m = numF e' m
  | 0, _ => rfl
  | m + 1, h => by
    have h1 := numF_congr (e := e) (e' := e') m (fun x y hx hy => h x y (by omega) (by omega))
    have h2 : fnd (e m) (lsF e m) = fnd (e' m) (lsF e m) := fnd_congr (fun x hx => h m x (by omega) (by have := lsF_lt e m x hx; omega))
    have h3 : lsF e m = lsF e' m := by unfold lsF; rw [h1]
    unfold numF
    show ((numF e m).1 ++ [fnd (e m) (lsF e m)], if fnd (e m) (lsF e m) = (lsF e m).length then lsF e m ++ [m] else lsF e m) = _
    rw [h2, h3, h1]
theorem csF_take (e : Nat → Nat → Bool) (m : Nat) : ∀ d, (csF e (m + d)).take m = csF e m
  | 0 => by rw [Nat.add_zero, List.take_of_length_le (by rw [csF_len]; exact Nat.le_refl _)]
  | d + 1 => by
    have h : m ≤ (csF e (m + d)).length := by rw [csF_len]; omega
    show (csF e (m + d + 1)).take m = _
    rw [csF_succ, List.take_append_of_le_length h]
    exact csF_take e m d
theorem csF_at (e : Nat → Nat → Bool) {n m : Nat} (h : n < m) : (csF e m).getD n 0 = fnd (e n) (lsF e n) := by
  obtain ⟨d, rfl⟩ : ∃ d, m = n + 1 + d := ⟨m - (n + 1), by omega⟩
  have h1 := csF_take e (n + 1) d
  have h2 : (csF e (n + 1 + d)).getD n 0 = ((csF e (n + 1 + d)).take (n + 1)).getD n 0 := by simp [List.getD]
  rw [h2, h1, csF_succ]
  have h3 := csF_len e n
  simp [List.getD, h3]
structure Eqv (e : Nat → Nat → Bool) (N : Nat) : Prop where
  refl : ∀ x, x < N → e x x = true
  symm : ∀ x y, x < N → y < N → e x y = true → e y x = true
  trans : ∀ x y z, x < N → y < N → z < N → e x y = true → e y z = true → e x z = true
structure Nmd (e : Nat → Nat → Bool) (m : Nat) : Prop where
  hit : ∀ n, n < m → (csF e m).getD n 0 < (lsF e m).length ∧ e n ((lsF e m).getD ((csF e m).getD n 0) 0) = true
  apart : ∀ c d, c < (lsF e m).length → d < (lsF e m).length → e ((lsF e m).getD c 0) ((lsF e m).getD d 0) = true → c = d
  own : ∀ c, c < (lsF e m).length → (csF e m).getD ((lsF e m).getD c 0) 0 = c
theorem numF_said {e : Nat → Nat → Bool} {N : Nat} (he : Eqv e N) : ∀ m, m ≤ N → Nmd e m
  | 0, _ => ⟨fun _ h => absurd h (Nat.not_lt_zero _), fun _ _ h => absurd h (Nat.not_lt_zero _), fun _ h => absurd h (Nat.not_lt_zero _)⟩
  | m + 1, hm => by
    have ih := numF_said he m (by omega)
    have hl := lsF_lt e m
    have hcl := csF_len e m
    have co : ∀ n, n < m → (csF e (m + 1)).getD n 0 = (csF e m).getD n 0 := fun n hn => by
      rw [csF_succ]
      have : n < (csF e m).length := by omega
      simp [List.getD, List.getElem?_append_left this]
    have cn : (csF e (m + 1)).getD m 0 = fnd (e m) (lsF e m) := csF_at e (Nat.lt_succ_self m)
    by_cases h : fnd (e m) (lsF e m) = (lsF e m).length
    · have hls : lsF e (m + 1) = lsF e m ++ [m] := by rw [lsF_succ, if_pos h]
      have lo : ∀ c, c < (lsF e m).length → (lsF e (m + 1)).getD c 0 = (lsF e m).getD c 0 := fun c hc => by
        rw [hls]
        simp [List.getD, List.getElem?_append_left hc]
      have ln : (lsF e (m + 1)).getD (lsF e m).length 0 = m := by
        rw [hls]
        simp [List.getD]
      have hlen : (lsF e (m + 1)).length = (lsF e m).length + 1 := by rw [hls, List.length_append, List.length_singleton]
      have hno := fnd_none h
      refine ⟨fun n hn => ?_, fun c d hc hd hcd => ?_, fun c hc => ?_⟩
      · by_cases en : n = m
        · subst en
          rw [cn, h, hlen, ln]
          exact ⟨by omega, he.refl n (by omega)⟩
        · have hn' : n < m := by omega
          have := ih.hit n hn'
          rw [co n hn', hlen, lo _ this.1]
          exact ⟨by omega, this.2⟩
      · rw [hlen] at hc hd
        by_cases ec : c = (lsF e m).length
        · by_cases ed : d = (lsF e m).length
          · omega
          · exfalso
            have hd' : d < (lsF e m).length := by omega
            rw [ec, ln, lo d hd'] at hcd
            rw [hno _ (nget_mem hd')] at hcd
            cases hcd
        · have hc' : c < (lsF e m).length := by omega
          rw [lo c hc'] at hcd
          by_cases ed : d = (lsF e m).length
          · exfalso
            rw [ed, ln] at hcd
            have h1 := hl _ (nget_mem hc')
            have h2 := he.symm _ _ (by omega) (by omega) hcd
            rw [hno _ (nget_mem hc')] at h2
            cases h2
          · have hd' : d < (lsF e m).length := by omega
            rw [lo d hd'] at hcd
            exact ih.apart c d hc' hd' hcd
      · rw [hlen] at hc
        by_cases ec : c = (lsF e m).length
        · rw [ec, ln, cn, h]
        · have hc' : c < (lsF e m).length := by omega
          rw [lo c hc', co _ (hl _ (nget_mem hc'))]
          exact ih.own c hc'
    · have hls : lsF e (m + 1) = lsF e m := by rw [lsF_succ, if_neg h]
      have hlt : fnd (e m) (lsF e m) < (lsF e m).length := by
        have := fnd_le (e m) (lsF e m)
        omega
      refine ⟨fun n hn => ?_, fun c d hc hd hcd => ?_, fun c hc => ?_⟩
      · rw [hls]
        by_cases en : n = m
        · subst en
          rw [cn]
          exact ⟨hlt, fnd_hit hlt⟩
        · rw [co n (by omega)]
          exact ih.hit n (by omega)
      · rw [hls] at hc hd hcd
        exact ih.apart c d hc hd hcd
      · rw [hls] at hc ⊢
        rw [co _ (hl _ (nget_mem hc))]
        exact ih.own c hc
end Go.Proofs.YtgmldkojldlekaaGreatDoor

namespace Go.Proofs.YtgmldkojldlekaaGreatDoor
set_option maxRecDepth 100000
open Go.RowKit
def tdK (x : Int) : Int := if x % 8 = 1 then 2 else if x % 8 = 2 then 3 else if x % 8 = 3 then 4 else 1
def tdA (x : Int) : Int := if x % 8 = 1 ∨ x % 8 = 2 then -1 else valOf x
def tdS (l : List Int) (ns : List ByteArray) (x : Int) : ByteArray := if x % 8 = 1 then ns.getD (valOf x).toNat ⟨#[]⟩ else if x % 8 = 3 then ns.getD (valOf (wdN l (valOf x).toNat) / 16).toNat ⟨#[]⟩ else ⟨#[]⟩
def tdN (x : Int) : Int := if x % 8 = 2 then valOf x else 0
def tdL (l : List Int) (x : Int) : List Int := if x % 8 = 3 then rchL (valOf x).toNat (wdN l (valOf x).toNat) else []
structure Tw (l : List Int) (ns : List ByteArray) (x : Int) : Prop where
  r0 : 0 ≤ x
  r1 : x ≤ 18446744073709551615
  tag : x % 8 = 0 ∨ x % 8 = 1 ∨ x % 8 = 2 ∨ x % 8 = 3
  atom : x % 8 = 1 → 0 ≤ valOf x ∧ (valOf x).toNat < ns.length
  str : x % 8 = 3 → 0 ≤ valOf x ∧ (valOf x).toNat < l.length ∧ tgN l (valOf x).toNat = 4 ∧ goodB (wdN l (valOf x).toNat) = true ∧ (valOf (wdN l (valOf x).toNat) / 16).toNat < ns.length
abbrev cel0 : Obj := .cells #[.int .i64 0, .int .i64 0, .string ⟨#[]⟩, .int .i64 0, .slice none 0 0] 69
theorem ret_cel {w : World} {fn : Func} {t : Tmp} (hfn : fn.results = #[.cell t 69]) {tmps : Array Value} {q : Nat} {u0 u1 u2 u3 u4 : Value} (h4 : tmps[t]?.getD undef = .pointer (some ⟨q, 0, none⟩)) (hq : w.heap[q]? = some (.cells #[u0, u1, u2, u3, u4] 69)) : (results fn tmps).run Tryz.prog w = .ok (.agg #[u0, u1, u2, u3, u4]) w := by
  have z0 : w.cell? ⟨q, 0, none⟩ = some u0 := by simp [World.cell?, hq]
  have z1 : w.cell? ⟨q, 1, none⟩ = some u1 := by simp [World.cell?, hq]
  have z2 : w.cell? ⟨q, 2, none⟩ = some u2 := by simp [World.cell?, hq]
  have z3 : w.cell? ⟨q, 3, none⟩ = some u3 := by simp [World.cell?, hq]
  have z4 : w.cell? ⟨q, 4, none⟩ = some u4 := by simp [World.cell?, hq]
  simp [results, hfn, go_sem, h4, z0, z1, z2, z3, z4]
abbrev set5C (w : World) (q : Nat) (u0 u1 u2 u3 u4 : Value) : World := ((((w.setCell ⟨q, 0, none⟩ u0).setCell ⟨q, 1, none⟩ u1).setCell ⟨q, 2, none⟩ u2).setCell ⟨q, 3, none⟩ u3).setCell ⟨q, 4, none⟩ u4
theorem set5C_at {w : World} {q : Nat} {v0 v1 v2 v3 v4 : Value} {T : TypeId} (h : w.heap[q]? = some (.cells #[v0, v1, v2, v3, v4] T)) (u0 u1 u2 u3 u4 : Value) : (set5C w q u0 u1 u2 u3 u4).heap[q]? = some (.cells #[u0, u1, u2, u3, u4] T) := by
  have h0 := heap_setCell_same w q 0 _ _ u0 h
  have h1 := heap_setCell_same _ q 1 _ _ u1 h0
  have h2 := heap_setCell_same _ q 2 _ _ u2 h1
  have h3 := heap_setCell_same _ q 3 _ _ u3 h2
  exact heap_setCell_same _ q 4 _ _ u4 h3
theorem set5C_far (w : World) {q k : Nat} (u0 u1 u2 u3 u4 : Value) (h : k ≠ q) : (set5C w q u0 u1 u2 u3 u4).heap[k]? = w.heap[k]? := by
  rw [Below.heap_setCell _ _ _ _ h, Below.heap_setCell _ _ _ _ h, Below.heap_setCell _ _ _ _ h, Below.heap_setCell _ _ _ _ h, Below.heap_setCell _ _ _ _ h]
theorem set5C_below {W w : World} {n q : Nat} (hb : Below n W w) (hq : n ≤ q) (u0 u1 u2 u3 u4 : Value) : Below n W (set5C w q u0 u1 u2 u3 u4) := ((((hb.setCell (p := ⟨q, 0, none⟩) hq _).setCell (p := ⟨q, 1, none⟩) hq _).setCell (p := ⟨q, 2, none⟩) hq _).setCell (p := ⟨q, 3, none⟩) hq _).setCell (p := ⟨q, 4, none⟩) hq _
theorem cel_cells {w : World} {q : Nat} {u0 u1 u2 u3 u4 : Value} {T : TypeId} (h : w.heap[q]? = some (.cells #[u0, u1, u2, u3, u4] T)) : (w.cell? ⟨q, 0, none⟩ = some u0 ∧ w.cell? ⟨q, 1, none⟩ = some u1 ∧ w.cell? ⟨q, 2, none⟩ = some u2 ∧ w.cell? ⟨q, 3, none⟩ = some u3 ∧ w.cell? ⟨q, 4, none⟩ = some u4) ∧ (w.frozen? ⟨q, 0, none⟩ = false ∧ w.frozen? ⟨q, 1, none⟩ = false ∧ w.frozen? ⟨q, 2, none⟩ = false ∧ w.frozen? ⟨q, 3, none⟩ = false ∧ w.frozen? ⟨q, 4, none⟩ = false) ∧ q < w.heap.size := by
  refine ⟨⟨?_, ?_, ?_, ?_, ?_⟩, ⟨?_, ?_, ?_, ?_, ?_⟩, lt_of_block h⟩ <;> simp [World.cell?, World.frozen?, h]
section
variable {w : World} {B hb ab tb : Nat} {m : Int} {av : Value} {l : List Int} {tv : Value} {tq : Nat} {ns : List ByteArray} {trv ptv : Value} {n : Int}
set_option maxHeartbeats 4000000 in
theorem ctold_any (h : Hp w B hb ab tb m av l tv tq ns trv ptv n) (x : Int) (hx : Tw l ns x) :
    Calls Tryz.prog 58 #[.pointer (some ⟨hb, 0, none⟩), .int .u64 x] w fun e w' => (∃ ao c, e = .returned (.agg #[.int .i64 (tdK x), .int .i64 (tdA x), .string (tdS l ns x), .int .i64 (tdN x), .slice ao (tdL l x).length c]) ∧ w'.ownsRow w.heap.size 3 1 (.slice ao (tdL l x).length c) (tdL l x).length ((tdL l x).map (Value.int .i64))) ∧ Below w.heap.size w w' := by
  have hb0 := below_alloc w cel0
  have hx0 := hid (heap_alloc_new w cel0)
  have HB0 := hid hb0
  have h1 := h.below hb0
  obtain ⟨⟨c0, c1, _⟩, c5⟩ := h1.cells
  have HH := hid h1
  have htg := hid (fun w => tag_any x w hx.r0 hx.r1)
  have hva := hid (fun w => value_any x w)
  have hx' := hid hx
  clear h h1 hb0
  rcases hx.tag with ht | ht | ht | ht
  · have eK := hid (show tdK x = 1 ∧ tdA x = valOf x ∧ tdS l ns x = ⟨#[]⟩ ∧ tdN x = 0 ∧ tdL l x = [] by simp [tdK, tdA, tdS, tdN, tdL, ht])
    rw [ht] at htg
    rw [eK.out.1, eK.out.2.1, eK.out.2.2.1, eK.out.2.2.2.1, eK.out.2.2.2.2]
    clear hx ht eK hx'
    generalize valOf x = y at *
    have hfin := hid (heap_alloc_new w (.cells #[.int .i64 1, .int .i64 y, .string ⟨#[]⟩, .int .i64 0, .slice none 0 0] 69))
    have hbf := hid (below_alloc w (.cells #[.int .i64 1, .int .i64 y, .string ⟨#[]⟩, .int .i64 0, .slice none 0 0] 69))
    go_enter Tryz.func58, Tryz.ntmps58
    go_wp2_with (first
      | (go_at_call 56; refine (hva.out _).mono ?_; rintro e w2 ⟨rfl, hw⟩; replace hw := hw.symm; subst hw)
      | (go_at_call 55; refine (htg.out _).mono ?_; rintro e w2 ⟨rfl, hw⟩; replace hw := hw.symm; subst hw))
    exact bodyPost_ret (ret_cel Tryz.results58 (by rfl) hfin.out) rfl ⟨⟨none, 0, rfl, World.ownsRow_nil _ _ _ _⟩, hbf.out⟩
  · obtain ⟨ha0, ha1⟩ := hx.atom ht
    obtain ⟨y, hy⟩ : ∃ y : Nat, valOf x = (y : Int) := ⟨(valOf x).toNat, by omega⟩
    rw [hy, Int.toNat_natCast] at ha1
    have eK := hid (show tdK x = 2 ∧ tdA x = -1 ∧ tdS l ns x = ns.getD y ⟨#[]⟩ ∧ tdN x = 0 ∧ tdL l x = [] by simp [tdK, tdA, tdS, tdN, tdL, ht, hy])
    rw [ht] at htg
    rw [hy] at hva
    have htx := hid (text_any HH.out.tb y ha1)
    rw [eK.out.1, eK.out.2.1, eK.out.2.2.1, eK.out.2.2.2.1, eK.out.2.2.2.2]
    generalize ns.getD y ⟨#[]⟩ = s at *
    clear hx ht eK hx' hy ha0
    go_enter Tryz.func58, Tryz.ntmps58
    go_wp2_with (first
      | (go_at_call 56; refine (hva.out _).mono ?_; rintro e w2 ⟨rfl, hw⟩; replace hw := hw.symm; subst hw)
      | (go_at_call 55; refine (htg.out _).mono ?_; rintro e w2 ⟨rfl, hw⟩; replace hw := hw.symm; subst hw)
      | (go_at_call 84; refine htx.out.mono ?_; rintro e w3 ⟨rfl, hb3⟩; have HB3 := hid (Below.next HB0.out hb3); have hx3 := hid ((hb3.block _ (lt_of_block hx0.out)).trans hx0.out); obtain ⟨⟨k0, k1, k2, k3, k4⟩, ⟨k5, k6, k7, k8, k9⟩, k10⟩ := cel_cells hx3.out; clear hb3))
    have hfin := set5C_at hx3.out (.int .i64 2) (.int .i64 (-1)) (.string s) (.int .i64 0) (.slice none 0 0)
    have hbf := set5C_below HB3.out (Nat.le_refl _) (.int .i64 2) (.int .i64 (-1)) (.string s) (.int .i64 0) (.slice none 0 0)
    exact bodyPost_ret (ret_cel Tryz.results58 (by rfl) hfin) rfl ⟨⟨none, 0, rfl, World.ownsRow_nil _ _ _ _⟩, hbf⟩
  · have eK := hid (show tdK x = 3 ∧ tdA x = -1 ∧ tdS l ns x = ⟨#[]⟩ ∧ tdN x = valOf x ∧ tdL l x = [] by simp [tdK, tdA, tdS, tdN, tdL, ht])
    rw [ht] at htg
    rw [eK.out.1, eK.out.2.1, eK.out.2.2.1, eK.out.2.2.2.1, eK.out.2.2.2.2]
    clear hx ht eK hx'
    generalize valOf x = y at *
    have hfin := hid (heap_alloc_new w (.cells #[.int .i64 3, .int .i64 (-1), .string ⟨#[]⟩, .int .i64 y, .slice none 0 0] 69))
    have hbf := hid (below_alloc w (.cells #[.int .i64 3, .int .i64 (-1), .string ⟨#[]⟩, .int .i64 y, .slice none 0 0] 69))
    go_enter Tryz.func58, Tryz.ntmps58
    go_wp2_with (first
      | (go_at_call 56; refine (hva.out _).mono ?_; rintro e w2 ⟨rfl, hw⟩; replace hw := hw.symm; subst hw)
      | (go_at_call 55; refine (htg.out _).mono ?_; rintro e w2 ⟨rfl, hw⟩; replace hw := hw.symm; subst hw))
    exact bodyPost_ret (ret_cel Tryz.results58 (by rfl) hfin.out) rfl ⟨⟨none, 0, rfl, World.ownsRow_nil _ _ _ _⟩, hbf.out⟩
  · obtain ⟨hs0, hs1, hs2, hs3, hs4⟩ := hx.str ht
    obtain ⟨y, hy⟩ : ∃ y : Nat, valOf x = (y : Int) := ⟨(valOf x).toNat, by omega⟩
    rw [hy, Int.toNat_natCast] at hs1 hs2 hs3 hs4
    have hl6 : l.length ≤ 65536 := by
      have h1 := HH.out.ar.len
      have h2 := HH.out.ar.m2
      omega
    have eK := hid (show tdK x = 4 ∧ tdA x = (y : Int) ∧ tdS l ns x = ns.getD (valOf (wdN l y) / 16).toNat ⟨#[]⟩ ∧ tdN x = 0 ∧ tdL l x = rchL y (wdN l y) by simp [tdK, tdA, tdS, tdN, tdL, ht, hy])
    rw [ht] at htg
    rw [hy] at hva
    have hwd := hid (bword_ok HH.out.ar y hs1)
    have hrz := HH.out.ar.rng (l.getD y 0) (by simp [List.getD, hs1])
    have hfv := fun_val (wdN l y) hs3 hs2
    rw [eK.out.1, eK.out.2.1, eK.out.2.2.1, eK.out.2.2.2.1, eK.out.2.2.2.2]
    have ew : wdN l y = l.getD y 0 := rfl
    have ht4 : wdN l y % 8 = 4 := hs2
    rw [← ew] at hwd hrz
    have hhd := hid (fun w => head_yes (wdN l y) w hrz.1 hrz.2 hs3 ht4)
    have hrc := hid (fun w => reached_any w y (by omega) (wdN l y) hrz.1 hrz.2 hs3)
    clear ew
    generalize wdN l y = z at *
    obtain ⟨f, hf⟩ : ∃ f : Nat, valOf z / 16 = (f : Int) := ⟨(valOf z / 16).toNat, by omega⟩
    rw [hf, Int.toNat_natCast] at hs4
    rw [hf] at hhd
    rw [hf, Int.toNat_natCast]
    have htx := hid (fun w1 (hb1 : Below (w.alloc cel0).heap.size (w.alloc cel0) w1) => text_any (HH.out.below hb1).tb f hs4)
    generalize ns.getD f ⟨#[]⟩ = s at *
    generalize valOf z % 16 = ar at *
    generalize hRL : rchL y z = RL at *
    clear hRL
    clear hx ht eK hx' hy hs0 hs1 hs2 hs3 hs4 hfv hf ht4 hrz hl6
    go_enter Tryz.func58, Tryz.ntmps58
    go_wp2_with (first
      | (go_at_call 56; refine (hva.out _).mono ?_; rintro e w2 ⟨rfl, hw⟩; replace hw := hw.symm; subst hw)
      | (go_at_call 55; refine (htg.out _).mono ?_; rintro e w2 ⟨rfl, hw⟩; replace hw := hw.symm; subst hw)
      | (go_at_call 72; refine hwd.out.mono ?_; rintro e w3 ⟨rfl, hb3⟩; have Hb3 := hid hb3; obtain ⟨⟨d0, d1, _⟩, d5⟩ := (HH.out.below hb3).cells; clear hb3)
      | (go_at_call 85; refine (hhd.out _).mono ?_; rintro e w2 ⟨rfl, hw⟩; replace hw := hw.symm; subst hw)
      | (go_at_call 84; refine (htx.out _ Hb3.out).mono ?_; rintro e w4 ⟨rfl, hb4⟩; have Hb4 := hid (Below.next Hb3.out hb4); clear hb4)
      | (go_at_call 71; refine (hrc.out _).mono ?_; rintro e w5 ⟨⟨ao, c, rfl, ho⟩, hb5⟩; have HB5 := hid (Below.next Hb4.out hb5); have Ho := hid ho; have hz4 := hid Hb4.out.size; have hx5 := hid ((HB5.out.block _ (lt_of_block hx0.out)).trans hx0.out); obtain ⟨⟨k0, k1, k2, k3, k4⟩, ⟨k5, k6, k7, k8, k9⟩, k10⟩ := cel_cells hx5.out; clear hb5 ho))
    have hfin := set5C_at hx5.out (.int .i64 4) (.int .i64 (y : Int)) (.string s) (.int .i64 0) (.slice ao RL.length c)
    have hbf := set5C_below (Below.next HB0.out HB5.out) (Nat.le_refl _) (.int .i64 4) (.int .i64 (y : Int)) (.string s) (.int .i64 0) (.slice ao RL.length c)
    have hz5 := hz4.out
    simp at hz5
    have hro := own_base (B' := w.heap.size) (row_keep Ho.out (fun k hk => set5C_far w5 (q := w.heap.size) (.int .i64 4) (.int .i64 (y : Int)) (.string s) (.int .i64 0) (.slice ao RL.length c) (by have := (Ho.out.lt k hk).1; omega))) (by omega)
    exact bodyPost_ret (ret_cel Tryz.results58 (by rfl) hfin) rfl ⟨⟨ao, c, rfl, hro⟩, hbf⟩
end
end Go.Proofs.YtgmldkojldlekaaGreatDoor

namespace Go.Proofs.YtgmldkojldlekaaGreatDoor
set_option maxRecDepth 100000
open Go.RowKit
def catF (cl : Nat → Nat) (N c : Nat) : List Nat := (List.range c).flatMap (mF cl N)
theorem catF_succ (cl : Nat → Nat) (N c : Nat) : catF cl N (c + 1) = catF cl N c ++ mF cl N c := by
  unfold catF
  rw [List.range_succ, List.flatMap_append]
  simp
theorem catF_mem {cl : Nat → Nat} {N c n : Nat} : n ∈ catF cl N c ↔ n < N ∧ cl n < c := by
  unfold catF
  rw [List.mem_flatMap]
  constructor
  · rintro ⟨d, hd, hn⟩
    have h1 := List.mem_range.1 hd
    have h2 := mF_mem.1 hn
    omega
  · rintro ⟨h1, h2⟩
    exact ⟨cl n, List.mem_range.2 h2, mF_mem.2 ⟨h1, rfl⟩⟩
theorem catF_nodup (cl : Nat → Nat) (N : Nat) : ∀ c, (catF cl N c).Nodup
  | 0 => by simp [catF]
  | c + 1 => by
    rw [catF_succ]
    refine List.nodup_append.2 ⟨catF_nodup cl N c, mF_nodup cl N c, fun a ha b hb e => ?_⟩
    have h1 := catF_mem.1 ha
    have h2 := mF_mem.1 hb
    subst e
    omega
theorem full_len : ∀ (N : Nat) (L : List Nat), (∀ n, n < N → n ∈ L) → N ≤ L.length
  | 0, _, _ => Nat.zero_le _
  | N + 1, L, h => by
    have h1 := h N (by omega)
    have h2 := full_len N (L.erase N) (fun n hn => (List.mem_erase_of_ne (by omega)).2 (h n (by omega)))
    have h3 := List.length_erase_of_mem h1
    have h4 : 0 < L.length := List.length_pos_of_mem h1
    omega
theorem catF_prefix (cl : Nat → Nat) (N c : Nat) : ∀ d, catF cl N c <+: catF cl N (c + d)
  | 0 => List.prefix_refl _
  | d + 1 => (catF_prefix cl N c d).trans (by
    show _ <+: catF cl N (c + d + 1)
    rw [catF_succ]
    exact List.prefix_append _ _)
theorem prefix_get {A B : List Nat} (h : A <+: B) {i : Nat} (hi : i < A.length) : B.getD i 0 = A.getD i 0 := by
  obtain ⟨t, rfl⟩ := h
  simp [List.getD, List.getElem?_append_left hi]
def idxN : List Nat → Nat → Nat
  | [], _ => 0
  | x :: r, n => if n = x then 0 else idxN r n + 1
theorem idxN_get : ∀ {L : List Nat} {i : Nat}, L.Nodup → i < L.length → idxN L (L.getD i 0) = i
  | [], _, _, h => absurd h (Nat.not_lt_zero _)
  | x :: r, 0, _, _ => by simp [idxN]
  | x :: r, i + 1, hn, hi => by
    have h1 := List.nodup_cons.1 hn
    have hi' : i < r.length := by simpa using hi
    have h2 := idxN_get h1.2 hi'
    have h3 : (x :: r).getD (i + 1) 0 = r.getD i 0 := by simp
    rw [h3]
    unfold idxN
    rw [if_neg (fun e => h1.1 (by rw [← e]; exact nget_mem hi')), h2]
theorem idxN_mem : ∀ {L : List Nat} {n : Nat}, n ∈ L → idxN L n < L.length ∧ L.getD (idxN L n) 0 = n
  | [], _, h => by simp at h
  | x :: r, n, h => by
    unfold idxN
    by_cases e : n = x
    · rw [if_pos e]
      exact ⟨by simp, by simp [e]⟩
    · rw [if_neg e]
      have h1 := idxN_mem (L := r) (n := n) ((List.mem_cons.1 h).resolve_left e)
      exact ⟨by simpa using h1.1, by simpa using h1.2⟩
def catS (cl : Nat → Nat) (N C : Nat) : Ps :=
  { C := C
    nd := fun i => (catF cl N C).getD i 0
    pl := idxN (catF cl N C)
    cl := cl
    fi := fun c => (catF cl N c).length
    be := fun c => (catF cl N (c + 1)).length
    mq := fun _ => 0 }
theorem catF_len {cl : Nat → Nat} {N C : Nat} (hlt : ∀ n, n < N → cl n < C) : (catF cl N C).length = N := by
  have h1 := fewer (catF_nodup cl N C) (fun n h => (catF_mem.1 h).1)
  have h2 := full_len N (catF cl N C) (fun n hn => catF_mem.2 ⟨hn, hlt n hn⟩)
  omega
theorem catS_iv {cl : Nat → Nat} {N C : Nat} (hlt : ∀ n, n < N → cl n < C) (hsur : ∀ c, c < C → ∃ n, n < N ∧ cl n = c) : Iv N (catS cl N C) := by
  have hlen := catF_len hlt
  have hnd := catF_nodup cl N C
  have hpos : ∀ c, c < C → ∀ i, (catF cl N c).length ≤ i → i < (catF cl N (c + 1)).length → (catF cl N C).getD i 0 = (mF cl N c).getD (i - (catF cl N c).length) 0 ∧ i - (catF cl N c).length < (mF cl N c).length := fun c hc i h1 h2 => by
    obtain ⟨d, rfl⟩ : ∃ d, C = c + 1 + d := ⟨C - (c + 1), by omega⟩
    rw [prefix_get (catF_prefix cl N (c + 1) d) h2]
    rw [catF_succ] at h2 ⊢
    rw [List.length_append] at h2
    exact ⟨by simp [List.getD, List.getElem?_append_right h1], by omega⟩
  have hle : ∀ c, c ≤ C → (catF cl N c).length ≤ N := fun c hc => by
    obtain ⟨d, rfl⟩ : ∃ d, C = c + d := ⟨C - c, by omega⟩
    have := (catF_prefix cl N c d).length_le
    omega
  refine ⟨fun n hn => ?_, fun i hi => ?_, fun n hn => hlt n hn, fun c hc => ?_, fun n c hn hc => ?_⟩
  · have h1 := idxN_mem (L := catF cl N C) (catF_mem.2 ⟨hn, hlt n hn⟩)
    rw [hlen] at h1
    exact h1
  · have h1 : i < (catF cl N C).length := by omega
    exact ⟨(catF_mem.1 (nget_mem h1)).1, idxN_get hnd h1⟩
  · obtain ⟨n, hn, e⟩ := hsur c hc
    have h1 : n ∈ mF cl N c := mF_mem.2 ⟨hn, e⟩
    have h2 := List.length_pos_of_mem h1
    have h3 := hle (c + 1) hc
    show (catF cl N c).length < (catF cl N (c + 1)).length ∧ (catF cl N (c + 1)).length ≤ N ∧ (catF cl N c).length + 0 ≤ (catF cl N (c + 1)).length
    rw [catF_succ, List.length_append] at h3 ⊢
    omega
  · show cl n = c ↔ (catF cl N c).length ≤ idxN (catF cl N C) n ∧ idxN (catF cl N C) n < (catF cl N (c + 1)).length
    have hm := idxN_mem (L := catF cl N C) (catF_mem.2 ⟨hn, hlt n hn⟩)
    constructor
    · intro e
      have h1 : n ∈ mF cl N c := mF_mem.2 ⟨hn, e⟩
      obtain ⟨j, hj, ej⟩ := List.getElem_of_mem h1
      have h2 : (catF cl N c).length + j < (catF cl N (c + 1)).length := by
        rw [catF_succ, List.length_append]
        omega
      have h3 := hpos c hc ((catF cl N c).length + j) (by omega) h2
      have h4 : (catF cl N c).length + j - (catF cl N c).length = j := by omega
      rw [h4] at h3
      have h5 : (catF cl N C).getD ((catF cl N c).length + j) 0 = n := by
        rw [h3.1, ← ej]
        simp [List.getD, hj]
      have h6 := hle (c + 1) hc
      have h7 := idxN_get hnd (i := (catF cl N c).length + j) (by omega)
      rw [h5] at h7
      omega
    · rintro ⟨h1, h2⟩
      have h3 := hpos c hc _ h1 h2
      rw [hm.2] at h3
      have h4 := nget_mem h3.2
      rw [← h3.1] at h4
      exact (mF_mem.1 h4).2
def catR (cl : Nat → Nat) (N c : Nat) (i : Nat) : List Int :=
  if i = 0 then ints (catF cl N c) else if i = 1 then rowF N (fun _ => 0) else if i = 2 then rowF N (fun n => if cl n < c then cl n else 0) else if i = 3 then rowF c (fun c => (catF cl N c).length) else if i = 4 then rowF c (fun c => (catF cl N (c + 1)).length) else rowF c (fun _ => 0)
theorem ints_app (a b : List Nat) : ints (a ++ b) = ints a ++ ints b := by simp [ints]
theorem ints_drop (a b : List Nat) : ((ints (a ++ b)).drop a.length).take ((a ++ b).length - a.length) = ints b := by
  rw [ints_app, List.drop_append_of_le_length (by rw [ints_len]; exact Nat.le_refl _), List.drop_of_length_le (by rw [ints_len]; exact Nat.le_refl _), List.nil_append, List.take_of_length_le (by rw [ints_len, List.length_append]; omega)]
theorem catR_step (cl : Nat → Nat) (N c : Nat) : ∀ i, i < 6 → upd (upd (upd (upd (upd (catR cl N c) 0 (ints (catF cl N (c + 1)))) 2 (setL (catR cl N c 2) (((ints (catF cl N (c + 1))).drop (catF cl N c).length).take ((catF cl N (c + 1)).length - (catF cl N c).length)) (catR cl N c 3).length)) 3 (catR cl N c 3 ++ [((catF cl N c).length : Int)])) 4 (catR cl N c 4 ++ [((catF cl N (c + 1)).length : Int)])) 5 (catR cl N c 5 ++ [0]) i = catR cl N (c + 1) i := by
  refine six rfl rfl ?_ ?_ ?_ ?_
  · show setL (rowF N _) _ ((rowF c _).length : Nat) = rowF N _
    rw [rowF_len, catF_succ, ints_drop, setL_row _ _ _ _ (fun x hx => by
      obtain ⟨n, _, rfl⟩ := List.mem_map.1 hx
      omega)]
    refine rowF_congr fun n hn => ?_
    have hm : (n : Int) ∈ ints (mF cl N c) ↔ cl n = c := by
      unfold ints
      rw [List.mem_map]
      constructor
      · rintro ⟨m, hm, e⟩
        have e' : m = n := by omega
        subst e'
        exact (mF_mem.1 hm).2
      · intro e
        exact ⟨n, mF_mem.2 ⟨hn, e⟩, rfl⟩
    by_cases e : cl n = c
    · rw [if_pos (hm.2 e), if_pos (by omega), e]
    · rw [if_neg (fun h => e (hm.1 h))]
      by_cases e2 : cl n < c
      · rw [if_pos e2, if_pos (by omega)]
      · rw [if_neg e2, if_neg (by omega)]
  · show rowF c _ ++ [((catF cl N c).length : Int)] = rowF (c + 1) _
    rw [rowF_snoc]
    refine rowF_congr fun i _ => ?_
    unfold upd
    by_cases e : i = c
    · rw [if_pos e, e]
    · rw [if_neg e]
  · show rowF c _ ++ [((catF cl N (c + 1)).length : Int)] = rowF (c + 1) _
    rw [rowF_snoc]
    refine rowF_congr fun i _ => ?_
    unfold upd
    by_cases e : i = c
    · rw [if_pos e, e]
    · rw [if_neg e]
  · show rowF c _ ++ [((0 : Nat) : Int)] = rowF (c + 1) _
    rw [rowF_snoc]
    refine rowF_congr fun i _ => ?_
    unfold upd
    by_cases e : i = c
    · rw [if_pos e]
    · rw [if_neg e]
theorem catR_step2 (cl : Nat → Nat) (N c b : Nat) (hb : b = (catF cl N (c + 1)).length) : ∀ i, i < 6 → upd (upd (upd (upd (upd (catR cl N c) 0 (ints (catF cl N (c + 1)))) 2 (setL (catR cl N c 2) (((ints (catF cl N (c + 1))).drop (catF cl N c).length).take (b - (catF cl N c).length)) (catR cl N c 3).length)) 3 (catR cl N c 3 ++ [((catF cl N c).length : Int)])) 4 (catR cl N c 4 ++ [(b : Int)])) 5 (catR cl N c 5 ++ [0]) i = catR cl N (c + 1) i := by
  subst hb
  exact catR_step cl N c
def plK (L : List Nat) (k n : Nat) : Nat := if n ∈ L.take k then idxN L n else 0
theorem plK_step {L : List Nat} (hn : L.Nodup) {k : Nat} (hk : k < L.length) : upd (plK L k) (L.getD k 0) k = plK L (k + 1) := by
  funext n
  unfold upd plK
  rw [ntake_snoc hk]
  by_cases e : n = L.getD k 0
  · rw [if_pos e, if_pos (by simp [e]), e, idxN_get hn hk]
  · rw [if_neg e]
    by_cases e2 : n ∈ L.take k
    · rw [if_pos e2, if_pos (by simp [e2])]
    · rw [if_neg e2, if_neg (fun h => by
        rcases List.mem_append.1 h with h1 | h1
        · exact e2 h1
        · exact e (by simpa using h1))]
theorem catR_last {cl : Nat → Nat} {N C : Nat} (hlt : ∀ n, n < N → cl n < C) : ∀ i, i < 6 → upd (catR cl N C) 1 (rowF N (plK (catF cl N C) N)) i = (catS cl N C).rows N i := by
  have hlen := catF_len hlt
  refine six ?_ ?_ ?_ rfl rfl rfl
  · show ints (catF cl N C) = rowF N _
    apply List.ext_getElem
    · rw [ints_len, rowF_len, hlen]
    · intro i h1 h2
      rw [ints_len] at h1
      simp [ints, rowF, catS, List.getD, h1]
  · show rowF N _ = rowF N _
    refine rowF_congr fun n hn => ?_
    unfold plK
    rw [List.take_of_length_le (by omega), if_pos (catF_mem.2 ⟨hn, hlt n hn⟩)]
    rfl
  · show rowF N _ = rowF N cl
    refine rowF_congr fun n hn => ?_
    rw [if_pos (hlt n hn)]
end Go.Proofs.YtgmldkojldlekaaGreatDoor
