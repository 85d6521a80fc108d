/- usersOf of package bisim: for each place and each node the compounds that have it there. -/
import Derived.Test.Ytjkcffcedbcjmaata19Z
import Derived.Test.Ytjkcffcedbcjmaata08Z
namespace Go.Proofs.Ytjkcffcedbcjmaa
set_option maxRecDepth 100000
open Go.RowKit
theorem infoIS : (Try.prog.info? 27).map (fun i => (i.zero, i.size, i.bytes)) = some (some (.slice none 0 0), 1, 24) := by kernel_rfl
theorem infoISS : (Try.prog.info? 60).map (fun i => (i.zero, i.size, i.bytes)) = some (some (.slice none 0 0), 1, 24) := by kernel_rfl
def rowV (N : Nat) (vs : Nat → Value) : Array Value := (Array.range N).map vs
theorem rowV_at {N a : Nat} (vs : Nat → Value) (h : a < N) : (rowV N vs)[a]? = some (vs a) := by simp [rowV, h]
theorem rowV_set (N a : Nat) (vs : Nat → Value) (x : Value) : (rowV N vs).setIfInBounds a x = rowV N (upd vs a x) := by
  unfold rowV
  apply Array.ext
  · simp
  · intro i h1 h2
    have hi : i < (Array.map vs (Array.range N)).size := by simpa using h1
    rw [Array.getElem_setIfInBounds hi]
    simp only [Array.getElem_map, Array.getElem_range, upd]
    by_cases e : a = i
    · rw [if_pos e, if_pos e.symm]
    · rw [if_neg e, if_neg (fun e' => e e'.symm)]
theorem made_rows (N : Nat) : madeCells #[.slice none 0 0] N = rowV N (fun _ => .slice none 0 0) := by
  apply Array.ext
  · simp [size_madeCells, rowV]
  · intro i h1 h2
    simp [madeCells, rowV, Nat.mod_one]
theorem make_rows (N : Nat) (hN : N ≤ 5000) (w : World) :
    (Instr.makeSlice 60 (.int .i64 (N : Int)) (.int .i64 (N : Int))).run Try.prog w = .ok (.slice (some ⟨w.heap.size, 0, none⟩) N N) (w.alloc (.cells (rowV N (fun _ => .slice none 0 0)) 27)) := by
  obtain ⟨i0, hi, hz0, hz1, hz2⟩ := info_parts infoIS
  have := run_make (P := Try.prog) w 60 27 i0 (.slice none 0 0) Try.underlying60 hi hz0 .i64 .i64 (N : Int) (N : Int) (by omega) (by omega) (by rw [hz2]; omega) (by omega)
  rw [this, hz1]
  simp only [Int.toNat_natCast, Nat.mul_one]
  rw [← made_rows]
  rfl
theorem make_tops (w : World) :
    (Instr.makeSlice 146 (.int .i64 8) (.int .i64 8)).run Try.prog w = .ok (.slice (some ⟨w.heap.size, 0, none⟩) 8 8) (w.alloc (.cells (rowV 8 (fun _ => .slice none 0 0)) 60)) := by
  obtain ⟨i0, hi, hz0, hz1, hz2⟩ := info_parts infoISS
  have := run_make (P := Try.prog) w 146 60 i0 (.slice none 0 0) Try.underlying146 hi hz0 .i64 .i64 8 8 (by omega) (by omega) (by rw [hz2]; omega) (by omega)
  rw [this, hz1]
  rw [← made_rows]
  rfl
def usrF (l : List Nd) (k : Nat) (a : Int) (m : Nat) : List Nat := (List.range m).filter (fun n => decide (k < (l.getD n nd0).args.length) && decide ((l.getD n nd0).args.getD k 0 = a))
theorem usrF_succ (l : List Nd) (k : Nat) (a : Int) (m : Nat) : usrF l k a (m + 1) = usrF l k a m ++ (if k < (l.getD m nd0).args.length ∧ (l.getD m nd0).args.getD k 0 = a then [m] else []) := by
  unfold usrF
  rw [List.range_succ, List.filter_append]
  congr 1
  by_cases h : k < (l.getD m nd0).args.length ∧ (l.getD m nd0).args.getD k 0 = a
  · rw [if_pos h]
    simp only [List.filter_cons, List.filter_nil, h.1, h.2, decide_true, Bool.and_self, if_true]
  · rw [if_neg h]
    have : (decide (k < (l.getD m nd0).args.length) && decide ((l.getD m nd0).args.getD k 0 = a)) = false := by
      rw [Bool.and_eq_false_iff]
      by_cases h1 : k < (l.getD m nd0).args.length
      · exact Or.inr (by simpa using fun h2 => h ⟨h1, h2⟩)
      · exact Or.inl (by simpa using h1)
    simp only [List.filter_cons, List.filter_nil, this]
    rfl
theorem usrF_mem {l : List Nd} {k m n : Nat} {a : Int} : n ∈ usrF l k a m ↔ n < m ∧ k < (l.getD n nd0).args.length ∧ (l.getD n nd0).args.getD k 0 = a := by
  unfold usrF
  rw [List.mem_filter, List.mem_range, Bool.and_eq_true, decide_eq_true_eq, decide_eq_true_eq]
theorem usrF_nodup (l : List Nd) (k : Nat) (a : Int) (m : Nat) : (usrF l k a m).Nodup := List.Sublist.nodup List.filter_sublist List.nodup_range
theorem usrF_len (l : List Nd) (k : Nat) (a : Int) (m : Nat) : (usrF l k a m).length ≤ m := fewer (usrF_nodup l k a m) (fun _ h => (usrF_mem.1 h).1)
def stF (l : List Nd) (m j k : Nat) (a : Nat) : List Nat := if k < j then usrF l k (a : Int) (m + 1) else usrF l k (a : Int) m
structure Ub (w : World) (B ub N : Nat) (b : Nat → Nat) (vs : Nat → Nat → Value) (F : Nat → Nat → List Nat) : Prop where
  top : w.heap[ub]? = some (.cells (rowV 8 (fun k => .slice (some ⟨b k, 0, none⟩) N N)) 60 (0, 0))
  row : ∀ k, k < 8 → w.heap[b k]? = some (.cells (rowV N (vs k)) 27 (0, 0))
  own : ∀ k a, k < 8 → a < N → w.ownsRow B 3 1 (vs k a) (F k a).length ((ints (F k a)).map (Value.int .i64))
  bnd : ∀ k k', k < 8 → k' < 8 → k ≠ k' → b k ≠ b k'
  nd : ∀ k a k' a', k < 8 → a < N → k' < 8 → a' < N → (k ≠ k' ∨ a ≠ a') → ∀ p q, (vs k a).ownBlock = some p → (vs k' a').ownBlock = some q → p ≠ q
  ge : B ≤ ub ∧ ∀ k, k < 8 → B ≤ b k
theorem Ub.congr {w : World} {B ub N : Nat} {b : Nat → Nat} {vs : Nat → Nat → Value} {F F' : Nat → Nat → List Nat} (h : Ub w B ub N b vs F) (e : ∀ k a, k < 8 → a < N → F k a = F' k a) : Ub w B ub N b vs F' :=
  ⟨h.top, h.row, fun k a hk ha => by rw [← e k a hk ha]; exact h.own k a hk ha, h.bnd, h.nd, h.ge⟩
theorem Ub.keep {w w' : World} {B ub N : Nat} {b : Nat → Nat} {vs : Nat → Nat → Value} {F : Nat → Nat → List Nat} (h : Ub w B ub N b vs F) (hb : Below w.heap.size w w') : Ub w' B ub N b vs F :=
  ⟨by rw [hb.block ub (lt_of_block h.top)]; exact h.top, fun k hk => by rw [hb.block _ (lt_of_block (h.row k hk))]; exact h.row k hk, fun k a hk ha => own_below (h.own k a hk ha) hb, h.bnd, h.nd, h.ge⟩
theorem Ub.far {w w2 : World} {B ub N k a : Nat} {o : Obj} {b : Nat → Nat} {vs : Nat → Nat → Value} {F : Nat → Nat → List Nat} (h : Ub w B ub N b vs F) (hk : k < 8) (ha : a < N) (hgr : (w.alloc o).grownBy w2 (vs k a).ownBlock) : w2.cell? ⟨b k, a, none⟩ = some (vs k a) ∧ w2.frozen? ⟨b k, a, none⟩ = false ∧ w2.cell? ⟨ub, k, none⟩ = some (.slice (some ⟨b k, 0, none⟩) N N) := by
  have h1 : w2.heap[b k]? = some (.cells (rowV N (vs k)) 27 (0, 0)) := by
    have hl := lt_of_block (h.row k hk)
    rw [hgr.block (b k) (by simp; omega) (fun e => ?_), Below.heap_alloc _ _ _ hl]
    · exact h.row k hk
    · obtain ⟨cur, h1, _⟩ := own_block_obj (h.own k a hk ha) e.symm
      rw [h.row k hk] at h1
      simp at h1
  have h2 : w2.heap[ub]? = some (.cells (rowV 8 (fun k => .slice (some ⟨b k, 0, none⟩) N N)) 60 (0, 0)) := by
    have hl := lt_of_block h.top
    rw [hgr.block ub (by simp; omega) (fun e => ?_), Below.heap_alloc _ _ _ hl]
    · exact h.top
    · obtain ⟨cur, h1, _⟩ := own_block_obj (h.own k a hk ha) e.symm
      rw [h.top] at h1
      simp at h1
  refine ⟨?_, by simp [World.frozen?, h1], ?_⟩
  · rw [cell_of_row w2 _ a _ _ _ h1]
    exact rowV_at _ ha
  · rw [cell_of_row w2 _ k _ _ _ h2]
    exact rowV_at _ hk
theorem Ub.push {w w2 : World} {B ub N k a n g cap : Nat} {o : Obj} {b : Nat → Nat} {vs : Nat → Nat → Value} {F : Nat → Nat → List Nat} (h : Ub w B ub N b vs F) (hk : k < 8) (ha : a < N)
    (hown : w2.ownsRow B 3 1 (.slice (some ⟨g, 0, none⟩) ((F k a).length + 1) cap) ((F k a).length + 1) ((ints (F k a)).map (Value.int .i64) ++ [.int .i64 (n : Int)])) (hgr : (w.alloc o).grownBy w2 (vs k a).ownBlock) (hat : (vs k a).ownBlock = some g ∨ g = w.heap.size + 1) :
    Ub (w2.setCell ⟨b k, a, none⟩ (.slice (some ⟨g, 0, none⟩) ((F k a).length + 1) cap)) B ub N b (upd vs k (upd (vs k) a (.slice (some ⟨g, 0, none⟩) ((F k a).length + 1) cap))) (upd F k (upd (F k) a (F k a ++ [n]))) := by
  have hty : ∀ k' a' p, k' < 8 → a' < N → (vs k' a').ownBlock = some p → ∀ cs T, w.heap[p]? = some (.cells cs T (0, 0)) → T = 3 := fun k' a' p hk' ha' e cs T hc => by
    obtain ⟨cur, h1, _⟩ := own_block_obj (h.own k' a' hk' ha') e
    rw [hc] at h1
    simp at h1
    exact h1.2
  have hold : ∀ q, q < w.heap.size → (vs k a).ownBlock ≠ some q → w2.heap[q]? = w.heap[q]? := fun q hq hne => by
    rw [hgr.block q (by simp; omega) (fun e => hne e.symm), Below.heap_alloc _ _ _ hq]
  have htop : w2.heap[ub]? = some (.cells (rowV 8 (fun k => .slice (some ⟨b k, 0, none⟩) N N)) 60 (0, 0)) := by
    rw [hold ub (lt_of_block h.top) (fun e => absurd (hty k a ub hk ha e _ _ h.top) (by decide))]
    exact h.top
  have hrow : ∀ k', k' < 8 → w2.heap[b k']? = some (.cells (rowV N (vs k')) 27 (0, 0)) := fun k' hk' => by
    rw [hold _ (lt_of_block (h.row k' hk')) (fun e => absurd (hty k a _ hk ha e _ _ (h.row k' hk')) (by decide))]
    exact h.row k' hk'
  have hub : ub ≠ b k := fun e => by
    have h1 := h.top
    rw [e, h.row k hk] at h1
    simp at h1
  have hgb : g ≠ b k := fun e => by
    obtain ⟨cur, h1, _⟩ := own_block_obj hown (q := g) rfl
    rw [e, hrow k hk] at h1
    simp at h1
  have hnew : ∀ k' a' p, k' < 8 → a' < N → (k' ≠ k ∨ a' ≠ a) → (vs k' a').ownBlock = some p → p ≠ g := fun k' a' p hk' ha' hne e e' => by
    rcases hat with h1 | h1
    · exact h.nd k' a' k a hk' ha' hk ha hne p g e h1 e'
    · have := ((h.own k' a' hk' ha').lt p e).2
      omega
  have us : ∀ k' a', k' = k → a' = a → upd vs k (upd (vs k) a (.slice (some ⟨g, 0, none⟩) ((F k a).length + 1) cap)) k' a' = .slice (some ⟨g, 0, none⟩) ((F k a).length + 1) cap := fun k' a' e1 e2 => by
    subst e1 e2
    rw [upd_same, upd_same]
  have uo : ∀ k' a', (k' ≠ k ∨ a' ≠ a) → upd vs k (upd (vs k) a (.slice (some ⟨g, 0, none⟩) ((F k a).length + 1) cap)) k' a' = vs k' a' := fun k' a' e => by
    by_cases e1 : k' = k
    · subst e1
      rw [upd_same, upd_other _ _ (e.resolve_left (fun h => h rfl))]
    · rw [upd_other _ _ e1]
  have fo : ∀ k' a', (k' ≠ k ∨ a' ≠ a) → upd F k (upd (F k) a (F k a ++ [n])) k' a' = F k' a' := fun k' a' e => by
    by_cases e1 : k' = k
    · subst e1
      rw [upd_same, upd_other _ _ (e.resolve_left (fun h => h rfl))]
    · rw [upd_other _ _ e1]
  refine ⟨?_, fun k' hk' => ?_, fun k' a' hk' ha' => ?_, h.bnd, fun k1 a1 k2 a2 hk1 ha1 hk2 ha2 hne p q hp hq => ?_, h.ge⟩
  · rw [Below.heap_setCell _ _ _ _ hub]
    exact htop
  · by_cases e : k' = k
    · subst e
      rw [upd_same, ← rowV_set]
      exact heap_setCell_same w2 _ a _ _ _ (hrow k' hk')
    · rw [upd_other _ _ e, Below.heap_setCell _ _ _ _ (h.bnd k' k hk' hk e)]
      exact hrow k' hk'
  · by_cases e : k' = k ∧ a' = a
    · obtain ⟨e1, e2⟩ := e
      rw [us k' a' e1 e2]
      subst e1 e2
      rw [upd_same, upd_same, ints_snoc, List.map_append, List.length_append, List.length_singleton]
      refine own_block hown (fun p e => Below.heap_setCell _ _ _ _ (fun e' => hgb ?_))
      have e1 : g = p := by simpa [Value.ownBlock] using e
      exact e1.trans e'
    · have e' : k' ≠ k ∨ a' ≠ a := by
        by_cases e1 : k' = k
        · exact Or.inr (fun e2 => e ⟨e1, e2⟩)
        · exact Or.inl e1
      rw [uo k' a' e', fo k' a' e']
      refine own_block (h.own k' a' hk' ha') (fun p ep => ?_)
      have hp := ((h.own k' a' hk' ha').lt p ep).2
      rw [Below.heap_setCell _ _ _ _ (fun e2 => absurd (hty k' a' p hk' ha' ep _ _ (by
        have e3 : p = b k := e2
        rw [e3]
        exact h.row k hk)) (by decide))]
      exact hold p hp (fun e2 => h.nd k' a' k a hk' ha' hk ha e' p p ep e2 rfl)
  · by_cases e1 : k1 = k ∧ a1 = a
    · rw [us k1 a1 e1.1 e1.2] at hp
      have ep : g = p := by simpa [Value.ownBlock] using hp
      have hne2 : k2 ≠ k ∨ a2 ≠ a := by
        rcases hne with h1 | h1
        · exact Or.inl (fun e => h1 (by rw [e1.1, e]))
        · exact Or.inr (fun e => h1 (by rw [e1.2, e]))
      rw [uo k2 a2 hne2] at hq
      exact fun e => hnew k2 a2 q hk2 ha2 hne2 hq (by omega)
    · have e1' : k1 ≠ k ∨ a1 ≠ a := by
        by_cases e2 : k1 = k
        · exact Or.inr (fun e3 => e1 ⟨e2, e3⟩)
        · exact Or.inl e2
      rw [uo k1 a1 e1'] at hp
      by_cases e2 : k2 = k ∧ a2 = a
      · rw [us k2 a2 e2.1 e2.2] at hq
        have eq' : g = q := by simpa [Value.ownBlock] using hq
        exact fun e => hnew k1 a1 p hk1 ha1 e1' hp (by omega)
      · have e2' : k2 ≠ k ∨ a2 ≠ a := by
          by_cases e3 : k2 = k
          · exact Or.inr (fun e4 => e2 ⟨e3, e4⟩)
          · exact Or.inl e3
        rw [uo k2 a2 e2'] at hq
        exact h.nd k1 a1 k2 a2 hk1 ha1 hk2 ha2 hne p q hp hq
structure U1 (W w : World) (N k : Nat) : Prop where
  b : Below W.heap.size W w
  top : w.heap[W.heap.size]? = some (.cells (rowV 8 (fun j => if j < k then .slice (some ⟨W.heap.size + 1 + j, 0, none⟩) N N else .slice none 0 0)) 60 (0, 0))
  row : ∀ j, j < k → w.heap[W.heap.size + 1 + j]? = some (.cells (rowV N (fun _ => .slice none 0 0)) 27 (0, 0))
  size : w.heap.size = W.heap.size + 1 + k
theorem U1.start (W : World) (N : Nat) : U1 W (W.alloc (.cells (rowV 8 (fun _ => .slice none 0 0)) 60)) N 0 := by
  refine ⟨below_alloc W _, ?_, fun j hj => absurd hj (Nat.not_lt_zero _), by simp⟩
  rw [heap_alloc_new]
  simp
theorem U1.step {W w : World} {N k : Nat} (h : U1 W w N k) : U1 W ((w.alloc (.cells (rowV N (fun _ => .slice none 0 0)) 27)).setCell ⟨W.heap.size, k, none⟩ (.slice (some ⟨w.heap.size, 0, none⟩) N N)) N (k + 1) := by
  have hs := h.size
  refine ⟨(h.b.alloc h.b.size _).setCell (Nat.le_refl _) _, ?_, fun j hj => ?_, by simp; omega⟩
  · have h1 : (w.alloc (.cells (rowV N (fun _ => .slice none 0 0)) 27)).heap[W.heap.size]? = some (.cells (rowV 8 (fun j => if j < k then .slice (some ⟨W.heap.size + 1 + j, 0, none⟩) N N else .slice none 0 0)) 60 (0, 0)) := by
      rw [Below.heap_alloc _ _ _ (by omega)]
      exact h.top
    rw [heap_setCell_same _ _ k _ _ _ h1, rowV_set]
    congr 3
    funext j
    unfold upd
    dsimp only
    by_cases e : j = k
    · rw [if_pos e, if_pos (by omega), e, hs]
    · rw [if_neg e]
      by_cases e1 : j < k
      · rw [if_pos e1, if_pos (by omega)]
      · rw [if_neg e1, if_neg (by omega)]
  · rw [Below.heap_setCell _ _ _ _ (by show W.heap.size + 1 + j ≠ W.heap.size; omega)]
    by_cases e : j = k
    · rw [e, ← hs]
      exact heap_alloc_new w _
    · rw [Below.heap_alloc _ _ _ (by omega)]
      exact h.row j (by omega)
theorem U1.last {W w : World} {N : Nat} (h : U1 W w N 8) : Ub w W.heap.size W.heap.size N (fun k => W.heap.size + 1 + k) (fun _ _ => .slice none 0 0) (fun _ _ => []) := by
  refine ⟨?_, fun k hk => h.row k hk, fun k a _ _ => World.ownsRow_nil _ _ _ _, fun k k' _ _ hne => by omega, fun _ _ _ _ _ _ _ _ _ p q hp _ => by simp [Value.ownBlock] at hp, Nat.le_refl _, fun k _ => by omega⟩
  rw [h.top]
  congr 2
  unfold rowV
  apply Array.map_congr_left
  intro j hj
  have := Array.mem_range.1 hj
  rw [if_pos this]
end Go.Proofs.Ytjkcffcedbcjmaa

namespace Go.Proofs.Ytjkcffcedbcjmaa
set_option maxRecDepth 100000
open Go.RowKit
theorem undr6 {w w' : World} {r : Option Nat} (h : w.drew.grownBy w' r) : w.grownBy w' r := ⟨h.os, h.tape, h.output, h.size, h.block⟩
set_option maxHeartbeats 4000000 in
theorem users_any {W : World} {nv : Value} {g : Gf} (hn : Rn W nv g.nodes) (hg : Good g) :
    Calls Try.prog 89 #[nv] W fun e w' => (∃ vs, e = .returned (.slice (some ⟨W.heap.size, 0, none⟩) 8 8) ∧ Ub w' W.heap.size W.heap.size g.nodes.length (fun k => W.heap.size + 1 + k) vs (fun k a => usrF g.nodes k (a : Int) g.nodes.length)) ∧ Below W.heap.size W w' := by
  obtain ⟨i0, hi, hz0, hz1, hz2⟩ := info_parts infoI
  have hnl := hg.nodes
  obtain ⟨na, nc, rfl, hNc⟩ := hn
  have hmk := make_rows g.nodes.length (by omega)
  have hmt := make_tops
  have hst := hid (U1.start W g.nodes.length)
  generalize hNN : g.nodes.length = N at *
  go_enter Try.func89, Try.ntmps89
  go_wp2
  go_loopw [12] (fun i wr => ∃ k : Nat, k ≤ 8 ∧ i = .int .i64 k ∧ Hid (U1 W wr N k)) (fun i _ => 8 - (intOf i).toNat)
  case atStart => exact ⟨0, by omega, rfl, hst⟩
  case round =>
    clear hst hmt
    obtain ⟨k, hk, rfl, hU⟩ := hrel
    by_cases hlt : k < 8
    · have hsz := hU.out.size
      have d0 : ∃ y, wr.cell? ⟨W.heap.size, k, none⟩ = some y := ⟨_, by rw [cell_of_row wr _ k _ _ _ hU.out.top]; exact rowV_at _ hlt⟩
      obtain ⟨y, d0⟩ := d0
      have f0 : wr.frozen? ⟨W.heap.size, k, none⟩ = false := by simp [World.frozen?, hU.out.top]
      have hz : W.heap.size < wr.heap.size := by omega
      have hU' := hid hU.out.step
      rw [World.setCell_alloc_past _ _ _ _ hz] at hU'
      clear hU hsz
      go_wp2
      go_roundw
      case rel => exact ⟨k + 1, by omega, congrArg (Value.int .i64) (by omega), hU'⟩
      case measure => simp [intOf]; omega
    · obtain rfl : k = 8 := by omega
      have hb0 := hid hU.out.b
      have h2 : Hid (∃ vs, Ub wr W.heap.size W.heap.size N (fun k => W.heap.size + 1 + k) vs (fun k a => usrF g.nodes k (a : Int) 0)) := ⟨_, hU.out.last.congr (fun k a _ _ => rfl)⟩
      clear hU hmk
      go_wp2
      go_loopw [24] (fun i wr => ∃ m : Nat, m ≤ N ∧ i = .int .i64 m ∧ Hid (Below W.heap.size W wr) ∧ Hid (∃ vs, Ub wr W.heap.size W.heap.size N (fun k => W.heap.size + 1 + k) vs (fun k a => usrF g.nodes k (a : Int) m))) (fun i _ => N - (intOf i).toNat)
      case atStart => exact ⟨0, Nat.zero_le _, rfl, hb0, h2⟩
      case round =>
        clear h2 hb0
        obtain ⟨m, hm, rfl, hb, hu⟩ := hrel
        by_cases hltm : m < N
        · obtain ⟨nb, no, av, rfl, hnd⟩ := hNc m (by omega)
          have hga := hg.args (x := (m : Int)) (by omega) (by omega)
          have hgm : g.argsOf (m : Int) = (g.nodes.getD m nd0).args := rfl
          rw [hgm] at hga
          obtain ⟨n0, n1, n2, n3, n4⟩ := hnd
          have d0 : wr.cell? ⟨nb, no + m * 4, none⟩ = _ := (hb.out.cell (p := ⟨nb, no + m * 4, none⟩) (lt_of_cell n0)).trans n0
          have d1 : wr.cell? ⟨nb, no + m * 4 + 1, none⟩ = _ := (hb.out.cell (p := ⟨nb, no + m * 4 + 1, none⟩) (lt_of_cell n0)).trans n1
          have d2 : wr.cell? ⟨nb, no + m * 4 + 2, none⟩ = _ := (hb.out.cell (p := ⟨nb, no + m * 4 + 2, none⟩) (lt_of_cell n0)).trans n2
          have d3 : wr.cell? ⟨nb, no + m * 4 + 3, none⟩ = _ := (hb.out.cell (p := ⟨nb, no + m * 4 + 3, none⟩) (lt_of_cell n0)).trans n3
          obtain ⟨aa, ac, rfl, hac⟩ := n4
          have hsu := hid (fun k a => usrF_succ g.nodes k a m)
          generalize hnod : g.nodes.getD m nd0 = nod at *
          have hb1 := hid (hb.out.alloc hb.out.size (.cells #[.int .i64 nod.kind, .string nod.name, .int .i64 nod.num, .slice aa nod.args.length ac] 63))
          have h3 : Hid (∃ vs, Ub (wr.alloc (.cells #[.int .i64 nod.kind, .string nod.name, .int .i64 nod.num, .slice aa nod.args.length ac] 63)) W.heap.size W.heap.size N (fun k => W.heap.size + 1 + k) vs (stF g.nodes m 0)) := by
            obtain ⟨vs, h⟩ := hu.out
            exact ⟨vs, (h.keep (below_alloc _ _)).congr (fun k a _ _ => by unfold stF; rw [if_neg (Nat.not_lt_zero _)])⟩
          clear hu hb n0 n1 n2 n3
          obtain ⟨kind, name, num, args⟩ := nod
          dsimp only at *
          go_wp2
          go_loopw [32] (fun i wr => ∃ j : Nat, j ≤ args.length ∧ i = .int .i64 j ∧ Hid (Below W.heap.size W wr) ∧ Hid (∃ vs, Ub wr W.heap.size W.heap.size N (fun k => W.heap.size + 1 + k) vs (stF g.nodes m j))) (fun i _ => args.length - (intOf i).toNat)
          case atStart => exact ⟨0, Nat.zero_le _, rfl, hb1, h3⟩
          case round =>
            clear h3 hb1 d0 d1 d2 d3
            obtain ⟨j, hj, rfl, hb, hu⟩ := hrel
            by_cases hltj : j < args.length
            · obtain ⟨vs, hub⟩ := hu.out
              obtain ⟨ab, ao, rfl, hcj⟩ := hac j hltj
              have hax := hga.1 _ (getD_mem hltj)
              obtain ⟨an, han⟩ : ∃ n : Nat, args.getD j 0 = (n : Int) := ⟨(args.getD j 0).toNat, by omega⟩
              rw [han] at hax hcj
              have hanN : an < N := by omega
              have hj8 : j < 8 := by omega
              have hj8i : (j : Int) < 8 := by omega
              have hani : (an : Int) < (N : Int) := by omega
              have e1 : wr.cell? ⟨ab, ao + j, none⟩ = some (.int .i64 (an : Int)) := (hb.out.cell (p := ⟨ab, ao + j, none⟩) (lt_of_cell hcj)).trans hcj
              have e2 : wr.cell? ⟨W.heap.size, j, none⟩ = some (.slice (some ⟨W.heap.size + 1 + j, 0, none⟩) N N) := by
                rw [cell_of_row wr _ j _ _ _ hub.top]
                exact rowV_at _ hj8
              have hown := hub.own j an hj8 hanN
              obtain ⟨va, vc, hva⟩ := own_sl hown
              have e3 : wr.cell? ⟨W.heap.size + 1 + j, an, none⟩ = some (.slice va (stF g.nodes m j j an).length vc) := by
                rw [cell_of_row wr _ an _ _ _ (hub.row j hj8), ← hva]
                exact rowV_at _ hanN
              have f3 : wr.frozen? ⟨W.heap.size + 1 + j, an, none⟩ = false := by simp [World.frozen?, hub.row j hj8]
              have hsl : (stF g.nodes m j j an).length ≤ 4096 := by
                have := usrF_len g.nodes j (an : Int) m
                unfold stF
                rw [if_neg (Nat.lt_irrefl _)]
                omega
              have hzb : W.heap.size + 1 + j < wr.heap.size := lt_of_block (hub.row j hj8)
              have hzt : W.heap.size < wr.heap.size := lt_of_block hub.top
              have hpush := hid (fun o w2 gg cap => Ub.push (o := o) (w2 := w2) (g := gg) (cap := cap) (n := m) hub hj8 hanN)
              have hfar := hid (fun o w2 => Ub.far (o := o) (w2 := w2) hub hj8 hanN)
              have hFs : Hid (∀ k a, k < 8 → a < N → upd (stF g.nodes m j) j (upd (stF g.nodes m j j) an (stF g.nodes m j j an ++ [m])) k a = stF g.nodes m (j + 1) k a) := fun k a _ _ => by
                by_cases ek : k = j
                · subst ek
                  rw [upd_same]
                  unfold stF
                  rw [if_pos (Nat.lt_succ_self k)]
                  by_cases ea : a = an
                  · subst ea
                    rw [upd_same, if_neg (Nat.lt_irrefl _), hsu.out, if_pos ⟨hltj, han⟩]
                  · rw [upd_other _ _ ea, if_neg (Nat.lt_irrefl _), hsu.out, if_neg (fun h => ea (by have := h.2; omega)), List.append_nil]
                · rw [upd_other _ _ ek]
                  unfold stF
                  by_cases h : k < j
                  · rw [if_pos h, if_pos (by omega)]
                  · rw [if_neg h, if_neg (by omega)]
              rw [hva] at hown hfar hpush
              have hvb := hid hva
              have hbd := hid hb.out
              have hbs := hb.out.size
              have ho1 := World.ownsRow.alloc hown (.cells #[.int .i64 (m : Int)] 3)
              have hnews := heap_alloc_new wr (.cells #[.int .i64 (m : Int)] 3)
              clear hu hb hub hcj hva han hax hown
              generalize hFF : stF g.nodes m j j an = FF at *
              go_wp2
              go_region_law
                (first
                  | (refine step_append_lies _ (by rfl) _ _ _ (by rfl) W.heap.size 3 i0 (.int .i64 0) 1 8 Try.underlying27 hi hz0 hz1 hz2 rfl (by omega) _ FF.length ((ints FF).map (Value.int .i64)) (by rfl) (by first | exact ho1 | exact ho1.drew) ⟨wr.heap.size, 0, none⟩ 1 1 [.int .i64 (m : Int)] (by rfl) (by rfl) (World.news_of_block (cs := #[.int .i64 (m : Int)]) (t := 3) (fr := (0, 0)) hnews) (by simp [Value.oneCell']) (by omega) (by unfold maxLen; omega) (by omega) (by simp; omega) (wr.heap.size + 1) (by simp) ?_; intro gg cap w5 hown5 hgr5 hat5 hlt5; have hgr6 := undr6 hgr5; obtain ⟨x1, x2, x3⟩ := hfar.out _ w5 hgr6))
              all_goals go_wp2
              all_goals
                go_roundw
                case rel => ((repeat apply Exists.intro); exact ⟨⟨j + 1, by omega, congrArg (Value.int .i64) (by omega), ((hbd.out.alloc hbs _).grown hgr6 (by simp; omega) (fun q e => (ho1.lt q e).1)).setCell (by show W.heap.size ≤ W.heap.size + 1 + j; omega) _, ⟨_, (hpush.out _ w5 gg cap hown5 hgr6 (hat5.elim Or.inl (fun h => Or.inr (by simpa using h)))).congr hFs.out⟩⟩, rfl⟩)
                case measure => simp [intOf]; omega
            · have hjl : j = args.length := by omega
              subst hjl
              have hu2 : Hid (∃ vs, Ub wr W.heap.size W.heap.size N (fun k => W.heap.size + 1 + k) vs (fun k a => usrF g.nodes k (a : Int) (m + 1))) := by
                obtain ⟨vs, h⟩ := hu.out
                refine ⟨vs, h.congr (fun k a _ _ => ?_)⟩
                unfold stF
                by_cases hkj : k < args.length
                · rw [if_pos hkj]
                · rw [if_neg hkj, hsu.out, if_neg (fun h => hkj h.1), List.append_nil]
              clear hu
              go_wp2
              exact ⟨⟨m + 1, by omega, congrArg (Value.int .i64) (by omega), hb, hu2⟩, by simp [intOf]; omega⟩
        · have hml : m = N := by omega
          subst hml
          obtain ⟨vs, hub⟩ := hu.out
          have hub' := hid hub
          clear hub hu
          go_wp2
          go_ret
          exact ⟨⟨vs, rfl, hub'.out⟩, hb.out⟩
end Go.Proofs.Ytjkcffcedbcjmaa

namespace Go.Proofs.Ytjkcffcedbcjmaa
set_option maxRecDepth 100000
open Go.RowKit
def fnd (p : Nat → Bool) : List Nat → Nat
  | [] => 0
  | x :: r => if p x then 0 else fnd p r + 1
theorem fnd_le (p : Nat → Bool) : ∀ l, fnd p l ≤ l.length
  | [] => Nat.le_refl _
  | x :: r => by
    have := fnd_le p r
    unfold fnd
    split
    · exact Nat.zero_le _
    · simp only [List.length_cons]
      omega
theorem fnd_hit {p : Nat → Bool} : ∀ {l : List Nat}, fnd p l < l.length → p (l.getD (fnd p l) 0) = true
  | [], h => absurd h (Nat.not_lt_zero _)
  | x :: r, h => by
    unfold fnd at h ⊢
    by_cases e : p x = true
    · rw [if_pos e]
      simpa using e
    · rw [if_neg e] at h ⊢
      have := fnd_hit (p := p) (l := r) (by simpa using h)
      simpa using this
theorem fnd_none {p : Nat → Bool} : ∀ {l : List Nat}, fnd p l = l.length → ∀ x ∈ l, p x = false
  | [], _ => by simp
  | x :: r, h => by
    unfold fnd at h
    by_cases e : p x = true
    · rw [if_pos e] at h
      simp at h
    · rw [if_neg e] at h
      intro y hy
      rcases List.mem_cons.1 hy with h1 | h1
      · rw [h1]
        simpa using e
      · exact fnd_none (by simpa using h) y h1
theorem fnd_at {p : Nat → Bool} : ∀ {l : List Nat} {c : Nat}, c < l.length → p (l.getD c 0) = true → (∀ d, d < c → p (l.getD d 0) = false) → fnd p l = c
  | [], _, h, _, _ => absurd h (Nat.not_lt_zero _)
  | x :: r, 0, _, h, _ => by
    unfold fnd
    rw [if_pos (by simpa using h)]
  | x :: r, c + 1, hc, h, hd => by
    have h0 := hd 0 (by omega)
    unfold fnd
    rw [if_neg (by simpa using h0), fnd_at (l := r) (c := c) (by simpa using hc) (by simpa using h) (fun d h1 => by simpa using hd (d + 1) (by omega))]
theorem fnd_congr {p q : Nat → Bool} : ∀ {l : List Nat}, (∀ x ∈ l, p x = q x) → fnd p l = fnd q l
  | [], _ => rfl
  | x :: r, h => by
    unfold fnd
    rw [h x (by simp), fnd_congr (fun y hy => h y (by simp [hy]))]
def numF (e : Nat → Nat → Bool) : Nat → List Nat × List Nat
  | 0 => ([], [])
  | m + 1 => ((numF e m).1 ++ [fnd (e m) (numF e m).2], if fnd (e m) (numF e m).2 = (numF e m).2.length then (numF e m).2 ++ [m] else (numF e m).2)
abbrev csF (e : Nat → Nat → Bool) (m : Nat) : List Nat := (numF e m).1
abbrev lsF (e : Nat → Nat → Bool) (m : Nat) : List Nat := (numF e m).2
theorem csF_succ (e : Nat → Nat → Bool) (m : Nat) : csF e (m + 1) = csF e m ++ [fnd (e m) (lsF e m)] := rfl
theorem lsF_succ (e : Nat → Nat → Bool) (m : Nat) : lsF e (m + 1) = if fnd (e m) (lsF e m) = (lsF e m).length then lsF e m ++ [m] else lsF e m := rfl
theorem csF_len (e : Nat → Nat → Bool) : ∀ m, (csF e m).length = m
  | 0 => rfl
  | m + 1 => by rw [csF_succ, List.length_append, csF_len e m]; rfl
theorem lsF_lt (e : Nat → Nat → Bool) : ∀ m, ∀ l ∈ lsF e m, l < m
  | 0 => by simp [lsF, numF]
  | m + 1 => by
    intro l hl
    rw [lsF_succ] at hl
    split at hl
    · rcases List.mem_append.1 hl with h | h
      · have := lsF_lt e m l h
        omega
      · have : l = m := by simpa using h
        omega
    · have := lsF_lt e m l hl
      omega
theorem lsF_le (e : Nat → Nat → Bool) : ∀ m, (lsF e m).length ≤ m
  | 0 => Nat.le_refl _
  | m + 1 => by
    have := lsF_le e m
    rw [lsF_succ]
    split
    · rw [List.length_append, List.length_singleton]
      omega
    · omega
theorem numF_congr {e e' : Nat → Nat → Bool} : ∀ m, (∀ x y, x < m → y < m → e x y = e' x y) → numF e m = numF e' m
  | 0, _ => rfl
  | m + 1, h => by
    have h1 := numF_congr (e := e) (e' := e') m (fun x y hx hy => h x y (by omega) (by omega))
    have h2 : fnd (e m) (lsF e m) = fnd (e' m) (lsF e m) := fnd_congr (fun x hx => h m x (by omega) (by have := lsF_lt e m x hx; omega))
    have h3 : lsF e m = lsF e' m := by unfold lsF; rw [h1]
    unfold numF
    show ((numF e m).1 ++ [fnd (e m) (lsF e m)], if fnd (e m) (lsF e m) = (lsF e m).length then lsF e m ++ [m] else lsF e m) = _
    rw [h2, h3, h1]
theorem csF_take (e : Nat → Nat → Bool) (m : Nat) : ∀ d, (csF e (m + d)).take m = csF e m
  | 0 => by rw [Nat.add_zero, List.take_of_length_le (by rw [csF_len]; exact Nat.le_refl _)]
  | d + 1 => by
    have h : m ≤ (csF e (m + d)).length := by rw [csF_len]; omega
    show (csF e (m + d + 1)).take m = _
    rw [csF_succ, List.take_append_of_le_length h]
    exact csF_take e m d
theorem csF_at (e : Nat → Nat → Bool) {n m : Nat} (h : n < m) : (csF e m).getD n 0 = fnd (e n) (lsF e n) := by
  obtain ⟨d, rfl⟩ : ∃ d, m = n + 1 + d := ⟨m - (n + 1), by omega⟩
  have h1 := csF_take e (n + 1) d
  have h2 : (csF e (n + 1 + d)).getD n 0 = ((csF e (n + 1 + d)).take (n + 1)).getD n 0 := by simp [List.getD]
  rw [h2, h1, csF_succ]
  have h3 := csF_len e n
  simp [List.getD, h3]
structure Eqv (e : Nat → Nat → Bool) (N : Nat) : Prop where
  refl : ∀ x, x < N → e x x = true
  symm : ∀ x y, x < N → y < N → e x y = true → e y x = true
  trans : ∀ x y z, x < N → y < N → z < N → e x y = true → e y z = true → e x z = true
structure Nmd (e : Nat → Nat → Bool) (m : Nat) : Prop where
  hit : ∀ n, n < m → (csF e m).getD n 0 < (lsF e m).length ∧ e n ((lsF e m).getD ((csF e m).getD n 0) 0) = true
  apart : ∀ c d, c < (lsF e m).length → d < (lsF e m).length → e ((lsF e m).getD c 0) ((lsF e m).getD d 0) = true → c = d
  own : ∀ c, c < (lsF e m).length → (csF e m).getD ((lsF e m).getD c 0) 0 = c
theorem numF_said {e : Nat → Nat → Bool} {N : Nat} (he : Eqv e N) : ∀ m, m ≤ N → Nmd e m
  | 0, _ => ⟨fun _ h => absurd h (Nat.not_lt_zero _), fun _ _ h => absurd h (Nat.not_lt_zero _), fun _ h => absurd h (Nat.not_lt_zero _)⟩
  | m + 1, hm => by
    have ih := numF_said he m (by omega)
    have hl := lsF_lt e m
    have hcl := csF_len e m
    have co : ∀ n, n < m → (csF e (m + 1)).getD n 0 = (csF e m).getD n 0 := fun n hn => by
      rw [csF_succ]
      have : n < (csF e m).length := by omega
      simp [List.getD, List.getElem?_append_left this]
    have cn : (csF e (m + 1)).getD m 0 = fnd (e m) (lsF e m) := csF_at e (Nat.lt_succ_self m)
    by_cases h : fnd (e m) (lsF e m) = (lsF e m).length
    · have hls : lsF e (m + 1) = lsF e m ++ [m] := by rw [lsF_succ, if_pos h]
      have lo : ∀ c, c < (lsF e m).length → (lsF e (m + 1)).getD c 0 = (lsF e m).getD c 0 := fun c hc => by
        rw [hls]
        simp [List.getD, List.getElem?_append_left hc]
      have ln : (lsF e (m + 1)).getD (lsF e m).length 0 = m := by
        rw [hls]
        simp [List.getD]
      have hlen : (lsF e (m + 1)).length = (lsF e m).length + 1 := by rw [hls, List.length_append, List.length_singleton]
      have hno := fnd_none h
      refine ⟨fun n hn => ?_, fun c d hc hd hcd => ?_, fun c hc => ?_⟩
      · by_cases en : n = m
        · subst en
          rw [cn, h, hlen, ln]
          exact ⟨by omega, he.refl n (by omega)⟩
        · have hn' : n < m := by omega
          have := ih.hit n hn'
          rw [co n hn', hlen, lo _ this.1]
          exact ⟨by omega, this.2⟩
      · rw [hlen] at hc hd
        by_cases ec : c = (lsF e m).length
        · by_cases ed : d = (lsF e m).length
          · omega
          · exfalso
            have hd' : d < (lsF e m).length := by omega
            rw [ec, ln, lo d hd'] at hcd
            rw [hno _ (nget_mem hd')] at hcd
            cases hcd
        · have hc' : c < (lsF e m).length := by omega
          rw [lo c hc'] at hcd
          by_cases ed : d = (lsF e m).length
          · exfalso
            rw [ed, ln] at hcd
            have h1 := hl _ (nget_mem hc')
            have h2 := he.symm _ _ (by omega) (by omega) hcd
            rw [hno _ (nget_mem hc')] at h2
            cases h2
          · have hd' : d < (lsF e m).length := by omega
            rw [lo d hd'] at hcd
            exact ih.apart c d hc' hd' hcd
      · rw [hlen] at hc
        by_cases ec : c = (lsF e m).length
        · rw [ec, ln, cn, h]
        · have hc' : c < (lsF e m).length := by omega
          rw [lo c hc', co _ (hl _ (nget_mem hc'))]
          exact ih.own c hc'
    · have hls : lsF e (m + 1) = lsF e m := by rw [lsF_succ, if_neg h]
      have hlt : fnd (e m) (lsF e m) < (lsF e m).length := by
        have := fnd_le (e m) (lsF e m)
        omega
      refine ⟨fun n hn => ?_, fun c d hc hd hcd => ?_, fun c hc => ?_⟩
      · rw [hls]
        by_cases en : n = m
        · subst en
          rw [cn]
          exact ⟨hlt, fnd_hit hlt⟩
        · rw [co n (by omega)]
          exact ih.hit n (by omega)
      · rw [hls] at hc hd hcd
        exact ih.apart c d hc hd hcd
      · rw [hls] at hc ⊢
        rw [co _ (hl _ (nget_mem hc))]
        exact ih.own c hc
theorem Nmd.same {e : Nat → Nat → Bool} {N : Nat} (he : Eqv e N) (h : Nmd e N) {x y : Nat} (hx : x < N) (hy : y < N) : (csF e N).getD x 0 = (csF e N).getD y 0 ↔ e x y = true := by
  have h1 := h.hit x hx
  have h2 := h.hit y hy
  have l1 := lsF_lt e N _ (nget_mem h1.1)
  have l2 := lsF_lt e N _ (nget_mem h2.1)
  constructor
  · intro ec
    rw [← ec] at h2 l2
    exact he.trans _ _ _ hx l1 hy h1.2 (he.symm _ _ hy l2 h2.2)
  · intro exy
    refine h.apart _ _ h1.1 h2.1 ?_
    exact he.trans _ _ _ l1 hx l2 (he.symm _ _ hx l1 h1.2) (he.trans _ _ _ hx hy l2 exy h2.2)
end Go.Proofs.Ytjkcffcedbcjmaa
