/- usersOf of package bisim: for each place and each node the compounds that have it there. -/
import Derived.Test.YtllafbghomohhaaBiPart
import Derived.Test.YtllafbghomohhaaBiM
namespace Go.Proofs.Ytllafbghomohhaa
open Go.RowKit

theorem infoIS : (Try.prog.info? 23).map (fun i => (i.zero, i.size, i.bytes)) = some (some (.slice none 0 0), 1, 24) := by kernel_rfl
theorem infoISS : (Try.prog.info? 53).map (fun i => (i.zero, i.size, i.bytes)) = some (some (.slice none 0 0), 1, 24) := by kernel_rfl
/-- So many cells. -/
def rowV (N : Nat) (vs : Nat → Value) : Array Value := (Array.range N).map vs
theorem rowV_size (N : Nat) (vs : Nat → Value) : (rowV N vs).size = N := by simp [rowV]
theorem rowV_at {N a : Nat} (vs : Nat → Value) (h : a < N) : (rowV N vs)[a]? = some (vs a) := by simp [rowV, h]
theorem rowV_set (N a : Nat) (vs : Nat → Value) (x : Value) : (rowV N vs).setIfInBounds a x = rowV N (upd vs a x) := by
  unfold rowV
  apply Array.ext
  · simp
  · intro i h1 h2
    have hi : i < (Array.map vs (Array.range N)).size := by simpa using h1
    rw [Array.getElem_setIfInBounds hi]
    simp only [Array.getElem_map, Array.getElem_range, upd]
    by_cases e : a = i
    · rw [if_pos e, if_pos e.symm]
    · rw [if_neg e, if_neg (fun e' => e e'.symm)]
theorem made_rows (N : Nat) : madeCells #[.slice none 0 0] N = rowV N (fun _ => .slice none 0 0) := by
  apply Array.ext
  · simp [size_madeCells, rowV]
  · intro i h1 h2
    simp [madeCells, rowV, Nat.mod_one]
theorem make_rows (N : Nat) (hN : N ≤ 5000) (w : World) :
    (Instr.makeSlice 53 (.int .i64 (N : Int)) (.int .i64 (N : Int))).run Try.prog w = .ok (.slice (some ⟨w.heap.size, 0, none⟩) N N) (w.alloc (.cells (rowV N (fun _ => .slice none 0 0)) 23)) := by
  obtain ⟨i0, hi, hz0, hz1, hz2⟩ := info_parts infoIS
  have := run_make (P := Try.prog) w 53 23 i0 (.slice none 0 0) Try.underlying53 hi hz0 .i64 .i64 (N : Int) (N : Int) (by omega) (by omega) (by rw [hz2]; omega) (by omega)
  rw [this, hz1]
  simp only [Int.toNat_natCast, Nat.mul_one]
  rw [← made_rows]
  rfl
theorem make_tops (w : World) :
    (Instr.makeSlice 123 (.int .i64 8) (.int .i64 8)).run Try.prog w = .ok (.slice (some ⟨w.heap.size, 0, none⟩) 8 8) (w.alloc (.cells (rowV 8 (fun _ => .slice none 0 0)) 53)) := by
  obtain ⟨i0, hi, hz0, hz1, hz2⟩ := info_parts infoISS
  have := run_make (P := Try.prog) w 123 53 i0 (.slice none 0 0) Try.underlying123 hi hz0 .i64 .i64 8 8 (by omega) (by omega) (by rw [hz2]; omega) (by omega)
  rw [this, hz1]
  rw [← made_rows]
  rfl
/-- The first m nodes that have a at the k-th place. -/
def usrF (l : List Nd) (k : Nat) (a : Int) (m : Nat) : List Nat := (List.range m).filter (fun n => decide (k < (l.getD n nd0).args.length) && decide ((l.getD n nd0).args.getD k 0 = a))
theorem usrF_succ (l : List Nd) (k : Nat) (a : Int) (m : Nat) : usrF l k a (m + 1) = usrF l k a m ++ (if k < (l.getD m nd0).args.length ∧ (l.getD m nd0).args.getD k 0 = a then [m] else []) := by
  unfold usrF
  rw [List.range_succ, List.filter_append]
  congr 1
  by_cases h : k < (l.getD m nd0).args.length ∧ (l.getD m nd0).args.getD k 0 = a
  · rw [if_pos h]
    simp only [List.filter_cons, List.filter_nil, h.1, h.2, decide_true, Bool.and_self, if_true]
  · rw [if_neg h]
    have : (decide (k < (l.getD m nd0).args.length) && decide ((l.getD m nd0).args.getD k 0 = a)) = false := by
      rw [Bool.and_eq_false_iff]
      by_cases h1 : k < (l.getD m nd0).args.length
      · exact Or.inr (by simpa using fun h2 => h ⟨h1, h2⟩)
      · exact Or.inl (by simpa using h1)
    simp only [List.filter_cons, List.filter_nil, this]
    rfl
theorem usrF_mem {l : List Nd} {k m n : Nat} {a : Int} : n ∈ usrF l k a m ↔ n < m ∧ k < (l.getD n nd0).args.length ∧ (l.getD n nd0).args.getD k 0 = a := by
  unfold usrF
  rw [List.mem_filter, List.mem_range, Bool.and_eq_true, decide_eq_true_eq, decide_eq_true_eq]
theorem usrF_nodup (l : List Nd) (k : Nat) (a : Int) (m : Nat) : (usrF l k a m).Nodup := List.Sublist.nodup List.filter_sublist List.nodup_range
theorem usrF_len (l : List Nd) (k : Nat) (a : Int) (m : Nat) : (usrF l k a m).length ≤ m := fewer (usrF_nodup l k a m) (fun _ h => (usrF_mem.1 h).1)
/-- While node m's first j arguments are entered. -/
def stF (l : List Nd) (m j k : Nat) (a : Nat) : List Nat := if k < j then usrF l k (a : Int) (m + 1) else usrF l k (a : Int) m
/-- The rows in memory. -/
structure Ub (w : World) (B ub N : Nat) (b : Nat → Nat) (vs : Nat → Nat → Value) (F : Nat → Nat → List Nat) : Prop where
  top : w.heap[ub]? = some (.cells (rowV 8 (fun k => .slice (some ⟨b k, 0, none⟩) N N)) 53 (0, 0))
  row : ∀ k, k < 8 → w.heap[b k]? = some (.cells (rowV N (vs k)) 23 (0, 0))
  own : ∀ k a, k < 8 → a < N → w.ownsRow B 3 1 (vs k a) (F k a).length ((ints (F k a)).map (Value.int .i64))
  bnd : ∀ k k', k < 8 → k' < 8 → k ≠ k' → b k ≠ b k'
  nd : ∀ k a k' a', k < 8 → a < N → k' < 8 → a' < N → (k ≠ k' ∨ a ≠ a') → ∀ p q, (vs k a).ownBlock = some p → (vs k' a').ownBlock = some q → p ≠ q
  ge : B ≤ ub ∧ ∀ k, k < 8 → B ≤ b k
theorem Ub.congr {w : World} {B ub N : Nat} {b : Nat → Nat} {vs : Nat → Nat → Value} {F F' : Nat → Nat → List Nat} (h : Ub w B ub N b vs F) (e : ∀ k a, k < 8 → a < N → F k a = F' k a) : Ub w B ub N b vs F' :=
  ⟨h.top, h.row, fun k a hk ha => by rw [← e k a hk ha]; exact h.own k a hk ha, h.bnd, h.nd, h.ge⟩
theorem Ub.keep {w w' : World} {B ub N : Nat} {b : Nat → Nat} {vs : Nat → Nat → Value} {F : Nat → Nat → List Nat} (h : Ub w B ub N b vs F) (hb : Below w.heap.size w w') : Ub w' B ub N b vs F :=
  ⟨by rw [hb.block ub (lt_of_block h.top)]; exact h.top, fun k hk => by rw [hb.block _ (lt_of_block (h.row k hk))]; exact h.row k hk, fun k a hk ha => own_below (h.own k a hk ha) hb, h.bnd, h.nd, h.ge⟩
theorem Ub.far {w w2 : World} {B ub N k a : Nat} {o : Obj} {b : Nat → Nat} {vs : Nat → Nat → Value} {F : Nat → Nat → List Nat} (h : Ub w B ub N b vs F) (hk : k < 8) (ha : a < N) (hgr : (w.alloc o).grownBy w2 (vs k a).ownBlock) : w2.cell? ⟨b k, a, none⟩ = some (vs k a) ∧ w2.frozen? ⟨b k, a, none⟩ = false ∧ w2.cell? ⟨ub, k, none⟩ = some (.slice (some ⟨b k, 0, none⟩) N N) := by
  have h1 : w2.heap[b k]? = some (.cells (rowV N (vs k)) 23 (0, 0)) := by
    have hl := lt_of_block (h.row k hk)
    rw [hgr.block (b k) (by simp; omega) (fun e => ?_), Below.heap_alloc _ _ _ hl]
    · exact h.row k hk
    · obtain ⟨cur, h1, _⟩ := own_block_obj (h.own k a hk ha) e.symm
      rw [h.row k hk] at h1
      simp at h1
  have h2 : w2.heap[ub]? = some (.cells (rowV 8 (fun k => .slice (some ⟨b k, 0, none⟩) N N)) 53 (0, 0)) := by
    have hl := lt_of_block h.top
    rw [hgr.block ub (by simp; omega) (fun e => ?_), Below.heap_alloc _ _ _ hl]
    · exact h.top
    · obtain ⟨cur, h1, _⟩ := own_block_obj (h.own k a hk ha) e.symm
      rw [h.top] at h1
      simp at h1
  refine ⟨?_, by simp [World.frozen?, h1], ?_⟩
  · rw [cell_of_row w2 _ a _ _ _ h1]
    exact rowV_at _ ha
  · rw [cell_of_row w2 _ k _ _ _ h2]
    exact rowV_at _ hk
/-- One row grows by one. -/
theorem Ub.push {w w2 : World} {B ub N k a n g cap : Nat} {o : Obj} {b : Nat → Nat} {vs : Nat → Nat → Value} {F : Nat → Nat → List Nat} (h : Ub w B ub N b vs F) (hk : k < 8) (ha : a < N)
    (hown : w2.ownsRow B 3 1 (.slice (some ⟨g, 0, none⟩) ((F k a).length + 1) cap) ((F k a).length + 1) ((ints (F k a)).map (Value.int .i64) ++ [.int .i64 (n : Int)])) (hgr : (w.alloc o).grownBy w2 (vs k a).ownBlock) (hat : (vs k a).ownBlock = some g ∨ g = w.heap.size + 1) :
    Ub (w2.setCell ⟨b k, a, none⟩ (.slice (some ⟨g, 0, none⟩) ((F k a).length + 1) cap)) B ub N b (upd vs k (upd (vs k) a (.slice (some ⟨g, 0, none⟩) ((F k a).length + 1) cap))) (upd F k (upd (F k) a (F k a ++ [n]))) := by
  have hty : ∀ k' a' p, k' < 8 → a' < N → (vs k' a').ownBlock = some p → ∀ cs T, w.heap[p]? = some (.cells cs T (0, 0)) → T = 3 := fun k' a' p hk' ha' e cs T hc => by
    obtain ⟨cur, h1, _⟩ := own_block_obj (h.own k' a' hk' ha') e
    rw [hc] at h1
    simp at h1
    exact h1.2
  have hold : ∀ q, q < w.heap.size → (vs k a).ownBlock ≠ some q → w2.heap[q]? = w.heap[q]? := fun q hq hne => by
    rw [hgr.block q (by simp; omega) (fun e => hne e.symm), Below.heap_alloc _ _ _ hq]
  have htop : w2.heap[ub]? = some (.cells (rowV 8 (fun k => .slice (some ⟨b k, 0, none⟩) N N)) 53 (0, 0)) := by
    rw [hold ub (lt_of_block h.top) (fun e => absurd (hty k a ub hk ha e _ _ h.top) (by decide))]
    exact h.top
  have hrow : ∀ k', k' < 8 → w2.heap[b k']? = some (.cells (rowV N (vs k')) 23 (0, 0)) := fun k' hk' => by
    rw [hold _ (lt_of_block (h.row k' hk')) (fun e => absurd (hty k a _ hk ha e _ _ (h.row k' hk')) (by decide))]
    exact h.row k' hk'
  have hub : ub ≠ b k := fun e => by
    have h1 := h.top
    rw [e, h.row k hk] at h1
    simp at h1
  have hgb : g ≠ b k := fun e => by
    obtain ⟨cur, h1, _⟩ := own_block_obj hown (q := g) rfl
    rw [e, hrow k hk] at h1
    simp at h1
  have hnew : ∀ k' a' p, k' < 8 → a' < N → (k' ≠ k ∨ a' ≠ a) → (vs k' a').ownBlock = some p → p ≠ g := fun k' a' p hk' ha' hne e e' => by
    rcases hat with h1 | h1
    · exact h.nd k' a' k a hk' ha' hk ha hne p g e h1 e'
    · have := ((h.own k' a' hk' ha').lt p e).2
      omega
  have us : ∀ k' a', k' = k → a' = a → upd vs k (upd (vs k) a (.slice (some ⟨g, 0, none⟩) ((F k a).length + 1) cap)) k' a' = .slice (some ⟨g, 0, none⟩) ((F k a).length + 1) cap := fun k' a' e1 e2 => by
    subst e1 e2
    rw [upd_same, upd_same]
  have uo : ∀ k' a', (k' ≠ k ∨ a' ≠ a) → upd vs k (upd (vs k) a (.slice (some ⟨g, 0, none⟩) ((F k a).length + 1) cap)) k' a' = vs k' a' := fun k' a' e => by
    by_cases e1 : k' = k
    · subst e1
      rw [upd_same, upd_other _ _ (e.resolve_left (fun h => h rfl))]
    · rw [upd_other _ _ e1]
  have fo : ∀ k' a', (k' ≠ k ∨ a' ≠ a) → upd F k (upd (F k) a (F k a ++ [n])) k' a' = F k' a' := fun k' a' e => by
    by_cases e1 : k' = k
    · subst e1
      rw [upd_same, upd_other _ _ (e.resolve_left (fun h => h rfl))]
    · rw [upd_other _ _ e1]
  refine ⟨?_, fun k' hk' => ?_, fun k' a' hk' ha' => ?_, h.bnd, fun k1 a1 k2 a2 hk1 ha1 hk2 ha2 hne p q hp hq => ?_, h.ge⟩
  · rw [Below.heap_setCell _ _ _ _ hub]
    exact htop
  · by_cases e : k' = k
    · subst e
      rw [upd_same, ← rowV_set]
      exact heap_setCell_same w2 _ a _ _ _ (hrow k' hk')
    · rw [upd_other _ _ e, Below.heap_setCell _ _ _ _ (h.bnd k' k hk' hk e)]
      exact hrow k' hk'
  · by_cases e : k' = k ∧ a' = a
    · obtain ⟨e1, e2⟩ := e
      rw [us k' a' e1 e2]
      subst e1 e2
      rw [upd_same, upd_same, ints_snoc, List.map_append, List.length_append, List.length_singleton]
      refine own_block hown (fun p e => Below.heap_setCell _ _ _ _ (fun e' => hgb ?_))
      have e1 : g = p := by simpa [Value.ownBlock] using e
      exact e1.trans e'
    · have e' : k' ≠ k ∨ a' ≠ a := by
        by_cases e1 : k' = k
        · exact Or.inr (fun e2 => e ⟨e1, e2⟩)
        · exact Or.inl e1
      rw [uo k' a' e', fo k' a' e']
      refine own_block (h.own k' a' hk' ha') (fun p ep => ?_)
      have hp := ((h.own k' a' hk' ha').lt p ep).2
      rw [Below.heap_setCell _ _ _ _ (fun e2 => absurd (hty k' a' p hk' ha' ep _ _ (by
        have e3 : p = b k := e2
        rw [e3]
        exact h.row k hk)) (by decide))]
      exact hold p hp (fun e2 => h.nd k' a' k a hk' ha' hk ha e' p p ep e2 rfl)
  · by_cases e1 : k1 = k ∧ a1 = a
    · rw [us k1 a1 e1.1 e1.2] at hp
      have ep : g = p := by simpa [Value.ownBlock] using hp
      have hne2 : k2 ≠ k ∨ a2 ≠ a := by
        rcases hne with h1 | h1
        · exact Or.inl (fun e => h1 (by rw [e1.1, e]))
        · exact Or.inr (fun e => h1 (by rw [e1.2, e]))
      rw [uo k2 a2 hne2] at hq
      exact fun e => hnew k2 a2 q hk2 ha2 hne2 hq (by omega)
    · have e1' : k1 ≠ k ∨ a1 ≠ a := by
        by_cases e2 : k1 = k
        · exact Or.inr (fun e3 => e1 ⟨e2, e3⟩)
        · exact Or.inl e2
      rw [uo k1 a1 e1'] at hp
      by_cases e2 : k2 = k ∧ a2 = a
      · rw [us k2 a2 e2.1 e2.2] at hq
        have eq' : g = q := by simpa [Value.ownBlock] using hq
        exact fun e => hnew k1 a1 p hk1 ha1 e1' hp (by omega)
      · have e2' : k2 ≠ k ∨ a2 ≠ a := by
          by_cases e3 : k2 = k
          · exact Or.inr (fun e4 => e2 ⟨e3, e4⟩)
          · exact Or.inl e3
        rw [uo k2 a2 e2'] at hq
        exact h.nd k1 a1 k2 a2 hk1 ha1 hk2 ha2 hne p q hp hq
/-- While the rows are made. -/
structure U1 (W w : World) (N k : Nat) : Prop where
  b : Below W.heap.size W w
  top : w.heap[W.heap.size]? = some (.cells (rowV 8 (fun j => if j < k then .slice (some ⟨W.heap.size + 1 + j, 0, none⟩) N N else .slice none 0 0)) 53 (0, 0))
  row : ∀ j, j < k → w.heap[W.heap.size + 1 + j]? = some (.cells (rowV N (fun _ => .slice none 0 0)) 23 (0, 0))
  size : w.heap.size = W.heap.size + 1 + k
theorem U1.start (W : World) (N : Nat) : U1 W (W.alloc (.cells (rowV 8 (fun _ => .slice none 0 0)) 53)) N 0 := by
  refine ⟨below_alloc W _, ?_, fun j hj => absurd hj (Nat.not_lt_zero _), by simp⟩
  rw [heap_alloc_new]
  simp
theorem U1.step {W w : World} {N k : Nat} (h : U1 W w N k) : U1 W ((w.alloc (.cells (rowV N (fun _ => .slice none 0 0)) 23)).setCell ⟨W.heap.size, k, none⟩ (.slice (some ⟨w.heap.size, 0, none⟩) N N)) N (k + 1) := by
  have hs := h.size
  refine ⟨(h.b.alloc h.b.size _).setCell (Nat.le_refl _) _, ?_, fun j hj => ?_, by simp; omega⟩
  · have h1 : (w.alloc (.cells (rowV N (fun _ => .slice none 0 0)) 23)).heap[W.heap.size]? = some (.cells (rowV 8 (fun j => if j < k then .slice (some ⟨W.heap.size + 1 + j, 0, none⟩) N N else .slice none 0 0)) 53 (0, 0)) := by
      rw [Below.heap_alloc _ _ _ (by omega)]
      exact h.top
    rw [heap_setCell_same _ _ k _ _ _ h1, rowV_set]
    congr 3
    funext j
    unfold upd
    dsimp only
    by_cases e : j = k
    · rw [if_pos e, if_pos (by omega), e, hs]
    · rw [if_neg e]
      by_cases e1 : j < k
      · rw [if_pos e1, if_pos (by omega)]
      · rw [if_neg e1, if_neg (by omega)]
  · rw [Below.heap_setCell _ _ _ _ (by show W.heap.size + 1 + j ≠ W.heap.size; omega)]
    by_cases e : j = k
    · rw [e, ← hs]
      exact heap_alloc_new w _
    · rw [Below.heap_alloc _ _ _ (by omega)]
      exact h.row j (by omega)
theorem U1.last {W w : World} {N : Nat} (h : U1 W w N 8) : Ub w W.heap.size W.heap.size N (fun k => W.heap.size + 1 + k) (fun _ _ => .slice none 0 0) (fun _ _ => []) := by
  refine ⟨?_, fun k hk => h.row k hk, fun k a _ _ => World.ownsRow_nil _ _ _ _, fun k k' _ _ hne => by omega, fun _ _ _ _ _ _ _ _ _ p q hp _ => by simp [Value.ownBlock] at hp, Nat.le_refl _, fun k _ => by omega⟩
  rw [h.top]
  congr 2
  unfold rowV
  apply Array.map_congr_left
  intro j hj
  have := Array.mem_range.1 hj
  rw [if_pos this]
end Go.Proofs.Ytllafbghomohhaa
