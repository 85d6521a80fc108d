/- labelled of package bisim: the classes by labels, as they are found; the lists of their nodes in memory. -/
import Derived.Test.Ytjkcffcedbcjmaata20Z
import Derived.Test.Ytjkcffcedbcjmaata19Z
import Derived.Test.Ytjkcffcedbcjmaata08Z
namespace Go.Proofs.Ytjkcffcedbcjmaa
set_option maxRecDepth 100000
open Go.RowKit Go.Maps
def lv (g : Gf) (n : Nat) : Value := labV (n : Int) (g.nodes.getD n nd0)
theorem lv_iff {g : Gf} {n m : Nat} : lv g n = lv g m ↔ labE g (n : Int) (m : Int) := by
  unfold lv labV labE Gf.nd
  simp only [Int.toNat_natCast]
  generalize g.nodes.getD n nd0 = a
  generalize g.nodes.getD m nd0 = b
  constructor
  · intro h
    injection h with h
    simp only [Array.mk.injEq, List.cons.injEq, Value.int.injEq, true_and, Value.string.injEq, and_true] at h
    obtain ⟨h1, h2, h3, h4, h5⟩ := h
    refine ⟨h1, h5, h2, by omega, fun e => ?_⟩
    rw [if_pos e, if_pos (by rw [← h1]; exact e)] at h4
    exact h4
  · rintro ⟨h1, h2, h3, h4, h5⟩
    rw [h2, h3, h4, h1]
    by_cases e : b.kind = 1
    · rw [if_pos e, if_pos e, h5 (by rw [h1]; exact e)]
    · rw [if_neg e, if_neg e]
theorem good_rng {N : Nat} {n : Nd} (h : goodNd N n = true) : (1 ≤ n.kind ∧ n.kind ≤ 4) ∧ (-1125899906842624 ≤ n.num ∧ n.num ≤ 1125899906842624) ∧ n.args.length ≤ 8 := by
  unfold goodNd at h
  split at h
  · simp only [Bool.and_eq_true, decide_eq_true_eq] at h
    omega
  · split at h
    · simp only [Bool.and_eq_true, decide_eq_true_eq] at h
      omega
    · split at h
      · simp only [Bool.and_eq_true, decide_eq_true_eq] at h
        omega
      · split at h
        · simp only [Bool.and_eq_true, decide_eq_true_eq] at h
          omega
        · cases h
theorem label_wf {g : Gf} (hg : Good g) {n : Nat} (hn : n < g.nodes.length) (hS : Sized g) : ∃ kl, keyOf Try.prog 157 (lv g n) = some kl := by
  have hm : g.nodes.getD n nd0 ∈ g.nodes := by simp [List.getD, hn]
  obtain ⟨h1, h2, h3⟩ := good_rng (hg.node _ hm)
  have h4 := hS _ hm
  have h5 := hg.nodes
  unfold lv labV
  generalize g.nodes.getD n nd0 = x at h1 h2 h3 h4
  exact label_key _ _ _ _ _ (WalkArith.wf_i64 (by omega)) (WalkArith.wf_i64 (by omega)) (WalkArith.wf_i64 (by omega)) (WalkArith.wf_i64 (by split <;> omega)) (by unfold maxLen; omega)
structure La (g : Gf) (m C : Nat) (cl : Nat → Nat) (D : DataW Unit) : Prop where
  lt : ∀ n, n < m → cl n < C
  same : ∀ n n', n < m → n' < m → (cl n = cl n' ↔ lv g n = lv g n')
  sur : ∀ c, c < C → ∃ n, n < m ∧ cl n = c
  has : ∀ v kl, keyOf Try.prog 157 v = some kl → (Maps.has D kl = true ↔ ∃ n, n < m ∧ lv g n = v)
  key : ∀ n kl, n < m → keyOf Try.prog 157 (lv g n) = some kl → D.atKey kl (.lit (.int .i64 0)) = .lit (.int .i64 (cl n : Int))
  le : C ≤ m
  map : Maps.IsMap D
theorem La.start (g : Gf) : La g 0 0 (fun _ => 0) (.map []) := by
  refine ⟨fun _ h => absurd h (Nat.not_lt_zero _), fun _ _ h => absurd h (Nat.not_lt_zero _), fun _ h => absurd h (Nat.not_lt_zero _), fun v kl _ => ?_, fun _ _ h => absurd h (Nat.not_lt_zero _), Nat.le_refl _, ⟨[], rfl⟩⟩
  constructor
  · intro h
    simp [Maps.has] at h
  · rintro ⟨n, h, _⟩
    omega
theorem La.old {g : Gf} {m C : Nat} {cl : Nat → Nat} {D : DataW Unit} (h : La g m C cl D) {kl : Lit} (hk : keyOf Try.prog 157 (lv g m) = some kl) (hh : Maps.has D kl = true) {c : Int} (hc : D.atKey kl (.lit (.int .i64 0)) = .lit (.int .i64 c)) :
    ∃ x : Nat, c = (x : Int) ∧ x < C ∧ La g (m + 1) C (upd cl m x) D := by
  obtain ⟨n0, hn0, e0⟩ := (h.has _ _ hk).1 hh
  have h1 := h.key n0 kl hn0 (by rw [e0]; exact hk)
  rw [hc] at h1
  have hcx : c = (cl n0 : Int) := by simpa using h1
  have ho : ∀ n, n < m → upd cl m (cl n0) n = cl n := fun n hn => upd_other _ _ (by omega)
  refine ⟨cl n0, hcx, h.lt n0 hn0, fun n hn => ?_, fun n n' hn hn' => ?_, fun c hc => ?_, fun v kl' hk' => ?_, fun n kl' hn hk' => ?_, by have := h.le; omega, h.map⟩
  · by_cases e : n = m
    · rw [e, upd_same]
      exact h.lt n0 hn0
    · rw [ho n (by omega)]
      exact h.lt n (by omega)
  · by_cases e : n = m
    · subst e
      rw [upd_same]
      by_cases e' : n' = n
      · subst e'
        rw [upd_same]
        exact ⟨fun _ => rfl, fun _ => rfl⟩
      · rw [ho n' (by omega), h.same n0 n' hn0 (by omega), e0]
    · rw [ho n (by omega)]
      by_cases e' : n' = m
      · subst e'
        rw [upd_same, h.same n n0 (by omega) hn0, e0]
      · rw [ho n' (by omega)]
        exact h.same n n' (by omega) (by omega)
  · obtain ⟨n, hn, e⟩ := h.sur c hc
    exact ⟨n, by omega, by rw [ho n hn]; exact e⟩
  · rw [h.has v kl' hk']
    constructor
    · rintro ⟨n, hn, e⟩
      exact ⟨n, by omega, e⟩
    · rintro ⟨n, hn, e⟩
      by_cases en : n = m
      · subst en
        exact ⟨n0, hn0, e0.trans e⟩
      · exact ⟨n, by omega, e⟩
  · by_cases e : n = m
    · subst e
      rw [upd_same]
      exact h.key n0 kl' hn0 (by rw [e0]; exact hk')
    · rw [ho n (by omega)]
      exact h.key n kl' (by omega) hk'
theorem La.new {g : Gf} {m C : Nat} {cl : Nat → Nat} {D : DataW Unit} (h : La g m C cl D) {kl : Lit} (hk : keyOf Try.prog 157 (lv g m) = some kl) (hh : Maps.has D kl = false) : La g (m + 1) (C + 1) (upd cl m C) (D.put kl (.lit (.int .i64 (C : Int)))) := by
  have hno : ∀ n, n < m → lv g n ≠ lv g m := fun n hn e => by
    have := (h.has _ _ hk).2 ⟨n, hn, e⟩
    rw [hh] at this
    cases this
  have ho : ∀ n, n < m → upd cl m C n = cl n := fun n hn => upd_other _ _ (by omega)
  have hkl := labLaw.key hk
  have hne : ∀ v kl', keyOf Try.prog 157 v = some kl' → v ≠ lv g m → kl' ≠ kl := fun v kl' hk' hv e => hv (labLaw.inj (by rw [← e]; exact hk') hk)
  refine ⟨fun n hn => ?_, fun n n' hn hn' => ?_, fun c hc => ?_, fun v kl' hk' => ?_, fun n kl' hn hk' => ?_, by have := h.le; omega, ?_⟩
  · by_cases e : n = m
    · rw [e, upd_same]
      omega
    · rw [ho n (by omega)]
      have := h.lt n (by omega)
      omega
  · by_cases e : n = m
    · subst e
      rw [upd_same]
      by_cases e' : n' = n
      · subst e'
        rw [upd_same]
        exact ⟨fun _ => rfl, fun _ => rfl⟩
      · rw [ho n' (by omega)]
        have := h.lt n' (by omega)
        exact ⟨fun e1 => by omega, fun e1 => absurd e1.symm (hno n' (by omega))⟩
    · rw [ho n (by omega)]
      by_cases e' : n' = m
      · subst e'
        rw [upd_same]
        have := h.lt n (by omega)
        exact ⟨fun e1 => by omega, fun e1 => absurd e1 (hno n (by omega))⟩
      · rw [ho n' (by omega)]
        exact h.same n n' (by omega) (by omega)
  · by_cases e : c = C
    · exact ⟨m, by omega, by rw [upd_same, e]⟩
    · obtain ⟨n, hn, e1⟩ := h.sur c (by omega)
      exact ⟨n, by omega, by rw [ho n hn]; exact e1⟩
  · by_cases e : v = lv g m
    · subst e
      obtain rfl : kl = kl' := Option.some.inj (hk.symm.trans hk')
      rw [Maps.has_put_same h.map hkl]
      exact ⟨fun _ => ⟨m, by omega, rfl⟩, fun _ => rfl⟩
    · rw [Maps.has_put_other (hne v kl' hk' e), h.has v kl' hk']
      constructor
      · rintro ⟨n, hn, e1⟩
        exact ⟨n, by omega, e1⟩
      · rintro ⟨n, hn, e1⟩
        by_cases en : n = m
        · subst en
          exact absurd e1.symm e
        · exact ⟨n, by omega, e1⟩
  · by_cases e : n = m
    · subst e
      obtain rfl : kl = kl' := Option.some.inj (hk.symm.trans hk')
      rw [Maps.atKey_put_same h.map hkl, upd_same]
    · rw [Maps.atKey_put_other (hne _ kl' hk' (hno n (by omega))), ho n (by omega)]
      exact h.key n kl' (by omega) hk'
  · obtain ⟨es, rfl⟩ := h.map
    exact ⟨_, rfl⟩
def mF (cl : Nat → Nat) (m c : Nat) : List Nat := (List.range m).filter (fun n => decide (cl n = c))
theorem mF_mem {cl : Nat → Nat} {m c n : Nat} : n ∈ mF cl m c ↔ n < m ∧ cl n = c := by
  unfold mF
  rw [List.mem_filter, List.mem_range, decide_eq_true_eq]
theorem mF_nodup (cl : Nat → Nat) (m c : Nat) : (mF cl m c).Nodup := List.Sublist.nodup List.filter_sublist List.nodup_range
theorem mF_len (cl : Nat → Nat) (m c : Nat) : (mF cl m c).length ≤ m := fewer (mF_nodup cl m c) (fun _ h => (mF_mem.1 h).1)
theorem mF_succ (cl : Nat → Nat) (m c x : Nat) : mF (upd cl m x) (m + 1) c = mF cl m c ++ (if x = c then [m] else []) := by
  unfold mF
  rw [List.range_succ, List.filter_append]
  congr 1
  · apply List.filter_congr
    intro n hn
    have := List.mem_range.1 hn
    rw [upd_other _ _ (by omega)]
  · simp only [List.filter_cons, List.filter_nil, upd_same, decide_eq_true_eq]
structure Mb (w : World) (B : Nat) (mv : Value) (C : Nat) (vs : Nat → Value) (F : Nat → List Nat) : Prop where
  top : w.ownsRow B 27 1 mv C ((List.range C).map vs)
  own : ∀ c, c < C → w.ownsRow B 3 1 (vs c) (F c).length ((ints (F c)).map (Value.int .i64))
  nd : ∀ c c', c < C → c' < C → c ≠ c' → ∀ p q, (vs c).ownBlock = some p → (vs c').ownBlock = some q → p ≠ q
theorem Mb.start (w : World) (B : Nat) : Mb w B (.slice none 0 0) 0 (fun _ => .slice none 0 0) (fun _ => []) :=
  ⟨World.ownsRow_nil _ _ _ _, fun _ h => absurd h (Nat.not_lt_zero _), fun _ _ h => absurd h (Nat.not_lt_zero _)⟩
theorem Mb.congr {w : World} {B C : Nat} {mv : Value} {vs : Nat → Value} {F F' : Nat → List Nat} (h : Mb w B mv C vs F) (e : ∀ c, c < C → F c = F' c) : Mb w B mv C vs F' :=
  ⟨h.top, fun c hc => by rw [← e c hc]; exact h.own c hc, h.nd⟩
theorem Mb.ty {w : World} {B C : Nat} {mv : Value} {vs : Nat → Value} {F : Nat → List Nat} (h : Mb w B mv C vs F) {q : Nat} (hq : mv.ownBlock = some q) : ∀ c, c < C → (vs c).ownBlock ≠ some q := fun c hc e => by
  obtain ⟨c1, h1, _⟩ := own_block_obj h.top hq
  obtain ⟨c2, h2, _⟩ := own_block_obj (h.own c hc) e
  rw [h1] at h2
  simp at h2
theorem Mb.keep {w w' : World} {B C : Nat} {mv : Value} {vs : Nat → Value} {F : Nat → List Nat} (h : Mb w B mv C vs F) (hk : ∀ k, (mv.ownBlock = some k ∨ ∃ c, c < C ∧ (vs c).ownBlock = some k) → w'.heap[k]? = w.heap[k]?) : Mb w' B mv C vs F :=
  ⟨own_block h.top (fun k e => hk k (Or.inl e)), fun c hc => own_block (h.own c hc) (fun k e => hk k (Or.inr ⟨c, hc, e⟩)), h.nd⟩
theorem Mb.below {w w' : World} {B C : Nat} {mv : Value} {vs : Nat → Value} {F : Nat → List Nat} (h : Mb w B mv C vs F) (hb : Below w.heap.size w w') : Mb w' B mv C vs F :=
  h.keep (fun k e => hb.block k (by
    rcases e with e | ⟨c, hc, e⟩
    · exact (h.top.lt k e).2
    · exact ((h.own c hc).lt k e).2))
theorem Mb.cell {w : World} {B C mb mc c : Nat} {vs : Nat → Value} {F : Nat → List Nat} (h : Mb w B (.slice (some ⟨mb, 0, none⟩) C mc) C vs F) (hc : c < C) : w.cell? ⟨mb, c, none⟩ = some (vs c) ∧ w.frozen? ⟨mb, c, none⟩ = false := by
  refine ⟨?_, ?_⟩
  · have := h.top.cells (g := mb) rfl c (vs c) (by simp [hc])
    rw [Addr.add_lit, Nat.zero_add] at this
    exact this
  · obtain ⟨cur, h1, _⟩ := own_block_obj h.top (q := mb) rfl
    simp [World.frozen?, h1]
theorem Mb.form {w : World} {B C : Nat} {mv : Value} {vs : Nat → Value} {F : Nat → List Nat} (h : Mb w B mv C vs F) (hC : 0 < C) : ∃ mb mc, mv = .slice (some ⟨mb, 0, none⟩) C mc := by
  obtain ⟨q, c, h1, _⟩ := (own_form h.top).resolve_left (fun h => by omega)
  exact ⟨q, c, h1⟩
theorem Mb.far {w w2 : World} {B C mb mc c : Nat} {o : Obj} {vs : Nat → Value} {F : Nat → List Nat} (h : Mb w B (.slice (some ⟨mb, 0, none⟩) C mc) C vs F) (hc : c < C) (hgr : (w.alloc o).grownBy w2 (vs c).ownBlock) : w2.cell? ⟨mb, c, none⟩ = some (vs c) ∧ w2.frozen? ⟨mb, c, none⟩ = false := by
  have hmb := (h.top.lt mb rfl).2
  have h1 : w2.heap[mb]? = w.heap[mb]? := by rw [hgr.block mb (by simp; omega) (fun e => h.ty rfl c hc e.symm), Below.heap_alloc _ _ _ hmb]
  obtain ⟨h2, h3⟩ := h.cell hc
  refine ⟨by rw [World.cell?_of_block (a := ⟨mb, c, none⟩) h1]; exact h2, ?_⟩
  simpa [World.frozen?, h1] using h3
theorem Mb.push {w w2 : World} {B C g cap : Nat} {o : Obj} {mv : Value} {vs : Nat → Value} {F : Nat → List Nat} (h : Mb w B mv C vs F) (hown : w2.ownsRow B 27 1 (.slice (some ⟨g, 0, none⟩) (C + 1) cap) (C + 1) ((List.range C).map vs ++ [.slice none 0 0])) (hgr : (w.alloc o).grownBy w2 mv.ownBlock) :
    Mb w2 B (.slice (some ⟨g, 0, none⟩) (C + 1) cap) (C + 1) (upd vs C (.slice none 0 0)) (upd F C []) := by
  have hvs : ∀ c, c < C → upd vs C (.slice none 0 0) c = vs c := fun c hc => upd_other _ _ (by omega)
  refine ⟨?_, fun c hc => ?_, fun c c' hc hc' hne p q hp hq => ?_⟩
  · have e : (List.range (C + 1)).map (upd vs C (.slice none 0 0)) = (List.range C).map vs ++ [.slice none 0 0] := by
      rw [List.range_succ, List.map_append]
      congr 1
      · apply List.map_congr_left
        intro c hc
        exact hvs c (List.mem_range.1 hc)
      · simp [upd]
    rw [e]
    exact hown
  · by_cases e : c = C
    · subst e
      rw [upd_same, upd_same]
      exact World.ownsRow_nil _ _ _ _
    · have hc' : c < C := by omega
      rw [hvs c hc', upd_other _ _ e]
      refine own_block (h.own c hc') (fun k ek => ?_)
      have hl := ((h.own c hc').lt k ek).2
      rw [hgr.block k (by simp; omega) (fun e' => h.ty e'.symm c hc' ek), Below.heap_alloc _ _ _ hl]
  · by_cases e : c = C
    · subst e
      rw [upd_same] at hp
      cases hp
    · by_cases e' : c' = C
      · subst e'
        rw [upd_same] at hq
        cases hq
      · rw [hvs c (by omega)] at hp
        rw [hvs c' (by omega)] at hq
        exact h.nd c c' (by omega) (by omega) hne p q hp hq
theorem range_set (C t : Nat) (vs : Nat → Value) (x : Value) : ((List.range C).map vs).set t x = (List.range C).map (upd vs t x) := by
  apply List.ext_getElem
  · simp
  · intro i h1 h2
    simp only [List.getElem_set, List.getElem_map, List.getElem_range, upd]
    by_cases e : t = i
    · rw [if_pos e, if_pos e.symm]
    · rw [if_neg e, if_neg (fun e' => e e'.symm)]
theorem Mb.add {w w2 : World} {B C c n g cap mb mc : Nat} {o : Obj} {vs : Nat → Value} {F : Nat → List Nat} (h : Mb w B (.slice (some ⟨mb, 0, none⟩) C mc) C vs F) (hc : c < C)
    (hown : w2.ownsRow B 3 1 (.slice (some ⟨g, 0, none⟩) ((F c).length + 1) cap) ((F c).length + 1) ((ints (F c)).map (Value.int .i64) ++ [.int .i64 (n : Int)])) (hgr : (w.alloc o).grownBy w2 (vs c).ownBlock) (hat : (vs c).ownBlock = some g ∨ g = w.heap.size + 1) :
    Mb (w2.setCell ⟨mb, c, none⟩ (.slice (some ⟨g, 0, none⟩) ((F c).length + 1) cap)) B (.slice (some ⟨mb, 0, none⟩) C mc) C (upd vs c (.slice (some ⟨g, 0, none⟩) ((F c).length + 1) cap)) (upd F c (F c ++ [n])) := by
  have hold : ∀ q, q < w.heap.size → (vs c).ownBlock ≠ some q → w2.heap[q]? = w.heap[q]? := fun q hq hne => by
    rw [hgr.block q (by simp; omega) (fun e => hne e.symm), Below.heap_alloc _ _ _ hq]
  have hmb := (h.top.lt mb rfl).2
  have htop : w2.ownsRow B 27 1 (.slice (some ⟨mb, 0, none⟩) C mc) C ((List.range C).map vs) := own_block h.top (fun k e => by
    have e' : mb = k := by simpa [Value.ownBlock] using e
    subst e'
    exact hold mb hmb (h.ty rfl c hc))
  have hgm : g ≠ mb := fun e => by
    obtain ⟨c1, h1, _⟩ := own_block_obj htop (q := mb) rfl
    obtain ⟨c2, h2, _⟩ := own_block_obj hown (q := g) rfl
    rw [e, h1] at h2
    simp at h2
  have hnew : ∀ c' p, c' < C → c' ≠ c → (vs c').ownBlock = some p → p ≠ g := fun c' p hc' hne e e' => by
    rcases hat with h1 | h1
    · exact h.nd c' c hc' hc hne p g e h1 e'
    · have := ((h.own c' hc').lt p e).2
      omega
  refine ⟨?_, fun c' hc' => ?_, fun c1 c2 h1 h2 hne p q hp hq => ?_⟩
  · rw [← range_set]
    exact own_set htop _
  · by_cases e : c' = c
    · subst e
      rw [upd_same, upd_same, ints_snoc, List.map_append, List.length_append, List.length_singleton]
      refine own_block hown (fun k ek => Below.heap_setCell _ _ _ _ (fun e' => hgm ?_))
      have e1 : g = k := by simpa [Value.ownBlock] using ek
      exact e1.trans e'
    · rw [upd_other _ _ e, upd_other _ _ e]
      refine own_block (h.own c' hc') (fun k ek => ?_)
      have hl := ((h.own c' hc').lt k ek).2
      rw [Below.heap_setCell _ _ _ _ (fun e' => h.ty rfl c' hc' (by
        have e2 : k = mb := e'
        rw [← e2]
        exact ek))]
      exact hold k hl (fun e' => h.nd c' c hc' hc e k k ek e' rfl)
  · by_cases e1 : c1 = c
    · subst e1
      rw [upd_same] at hp
      rw [upd_other _ _ (fun e => hne e.symm)] at hq
      have ep : g = p := by simpa [Value.ownBlock] using hp
      exact fun e => hnew c2 q h2 (fun e => hne e.symm) hq (by omega)
    · rw [upd_other _ _ e1] at hp
      by_cases e2 : c2 = c
      · subst e2
        rw [upd_same] at hq
        have eq' : g = q := by simpa [Value.ownBlock] using hq
        exact fun e => hnew c1 p h1 e1 hp (by omega)
      · rw [upd_other _ _ e2] at hq
        exact h.nd c1 c2 h1 h2 hne p q hp hq
end Go.Proofs.Ytjkcffcedbcjmaa

namespace Go.Proofs.Ytjkcffcedbcjmaa
set_option maxRecDepth 100000
open Go.RowKit
def catF (cl : Nat → Nat) (N c : Nat) : List Nat := (List.range c).flatMap (mF cl N)
theorem catF_succ (cl : Nat → Nat) (N c : Nat) : catF cl N (c + 1) = catF cl N c ++ mF cl N c := by
  unfold catF
  rw [List.range_succ, List.flatMap_append]
  simp
theorem catF_mem {cl : Nat → Nat} {N c n : Nat} : n ∈ catF cl N c ↔ n < N ∧ cl n < c := by
  unfold catF
  rw [List.mem_flatMap]
  constructor
  · rintro ⟨d, hd, hn⟩
    have h1 := List.mem_range.1 hd
    have h2 := mF_mem.1 hn
    omega
  · rintro ⟨h1, h2⟩
    exact ⟨cl n, List.mem_range.2 h2, mF_mem.2 ⟨h1, rfl⟩⟩
theorem catF_nodup (cl : Nat → Nat) (N : Nat) : ∀ c, (catF cl N c).Nodup
  | 0 => by simp [catF]
  | c + 1 => by
    rw [catF_succ]
    refine List.nodup_append.2 ⟨catF_nodup cl N c, mF_nodup cl N c, fun a ha b hb e => ?_⟩
    have h1 := catF_mem.1 ha
    have h2 := mF_mem.1 hb
    subst e
    omega
theorem full_len : ∀ (N : Nat) (L : List Nat), (∀ n, n < N → n ∈ L) → N ≤ L.length
  | 0, _, _ => Nat.zero_le _
  | N + 1, L, h => by
    have h1 := h N (by omega)
    have h2 := full_len N (L.erase N) (fun n hn => (List.mem_erase_of_ne (by omega)).2 (h n (by omega)))
    have h3 := List.length_erase_of_mem h1
    have h4 : 0 < L.length := List.length_pos_of_mem h1
    omega
theorem catF_prefix (cl : Nat → Nat) (N c : Nat) : ∀ d, catF cl N c <+: catF cl N (c + d)
  | 0 => List.prefix_refl _
  | d + 1 => (catF_prefix cl N c d).trans (by
    show _ <+: catF cl N (c + d + 1)
    rw [catF_succ]
    exact List.prefix_append _ _)
theorem prefix_get {A B : List Nat} (h : A <+: B) {i : Nat} (hi : i < A.length) : B.getD i 0 = A.getD i 0 := by
  obtain ⟨t, rfl⟩ := h
  simp [List.getD, List.getElem?_append_left hi]
def idxN : List Nat → Nat → Nat
  | [], _ => 0
  | x :: r, n => if n = x then 0 else idxN r n + 1
theorem idxN_get : ∀ {L : List Nat} {i : Nat}, L.Nodup → i < L.length → idxN L (L.getD i 0) = i
  | [], _, _, h => absurd h (Nat.not_lt_zero _)
  | x :: r, 0, _, _ => by simp [idxN]
  | x :: r, i + 1, hn, hi => by
    have h1 := List.nodup_cons.1 hn
    have hi' : i < r.length := by simpa using hi
    have h2 := idxN_get h1.2 hi'
    have h3 : (x :: r).getD (i + 1) 0 = r.getD i 0 := by simp
    rw [h3]
    unfold idxN
    rw [if_neg (fun e => h1.1 (by rw [← e]; exact nget_mem hi')), h2]
theorem idxN_mem : ∀ {L : List Nat} {n : Nat}, n ∈ L → idxN L n < L.length ∧ L.getD (idxN L n) 0 = n
  | [], _, h => by simp at h
  | x :: r, n, h => by
    unfold idxN
    by_cases e : n = x
    · rw [if_pos e]
      exact ⟨by simp, by simp [e]⟩
    · rw [if_neg e]
      have h1 := idxN_mem (L := r) (n := n) ((List.mem_cons.1 h).resolve_left e)
      exact ⟨by simpa using h1.1, by simpa using h1.2⟩
def catS (cl : Nat → Nat) (N C : Nat) : Ps :=
  { C := C
    nd := fun i => (catF cl N C).getD i 0
    pl := idxN (catF cl N C)
    cl := cl
    fi := fun c => (catF cl N c).length
    be := fun c => (catF cl N (c + 1)).length
    mq := fun _ => 0 }
theorem catF_len {cl : Nat → Nat} {N C : Nat} (hlt : ∀ n, n < N → cl n < C) : (catF cl N C).length = N := by
  have h1 := fewer (catF_nodup cl N C) (fun n h => (catF_mem.1 h).1)
  have h2 := full_len N (catF cl N C) (fun n hn => catF_mem.2 ⟨hn, hlt n hn⟩)
  omega
theorem catS_iv {cl : Nat → Nat} {N C : Nat} (hlt : ∀ n, n < N → cl n < C) (hsur : ∀ c, c < C → ∃ n, n < N ∧ cl n = c) : Iv N (catS cl N C) := by
  have hlen := catF_len hlt
  have hnd := catF_nodup cl N C
  have hpos : ∀ c, c < C → ∀ i, (catF cl N c).length ≤ i → i < (catF cl N (c + 1)).length → (catF cl N C).getD i 0 = (mF cl N c).getD (i - (catF cl N c).length) 0 ∧ i - (catF cl N c).length < (mF cl N c).length := fun c hc i h1 h2 => by
    obtain ⟨d, rfl⟩ : ∃ d, C = c + 1 + d := ⟨C - (c + 1), by omega⟩
    rw [prefix_get (catF_prefix cl N (c + 1) d) h2]
    rw [catF_succ] at h2 ⊢
    rw [List.length_append] at h2
    exact ⟨by simp [List.getD, List.getElem?_append_right h1], by omega⟩
  have hle : ∀ c, c ≤ C → (catF cl N c).length ≤ N := fun c hc => by
    obtain ⟨d, rfl⟩ : ∃ d, C = c + d := ⟨C - c, by omega⟩
    have := (catF_prefix cl N c d).length_le
    omega
  refine ⟨fun n hn => ?_, fun i hi => ?_, fun n hn => hlt n hn, fun c hc => ?_, fun n c hn hc => ?_⟩
  · have h1 := idxN_mem (L := catF cl N C) (catF_mem.2 ⟨hn, hlt n hn⟩)
    rw [hlen] at h1
    exact h1
  · have h1 : i < (catF cl N C).length := by omega
    exact ⟨(catF_mem.1 (nget_mem h1)).1, idxN_get hnd h1⟩
  · obtain ⟨n, hn, e⟩ := hsur c hc
    have h1 : n ∈ mF cl N c := mF_mem.2 ⟨hn, e⟩
    have h2 := List.length_pos_of_mem h1
    have h3 := hle (c + 1) hc
    show (catF cl N c).length < (catF cl N (c + 1)).length ∧ (catF cl N (c + 1)).length ≤ N ∧ (catF cl N c).length + 0 ≤ (catF cl N (c + 1)).length
    rw [catF_succ, List.length_append] at h3 ⊢
    omega
  · show cl n = c ↔ (catF cl N c).length ≤ idxN (catF cl N C) n ∧ idxN (catF cl N C) n < (catF cl N (c + 1)).length
    have hm := idxN_mem (L := catF cl N C) (catF_mem.2 ⟨hn, hlt n hn⟩)
    constructor
    · intro e
      have h1 : n ∈ mF cl N c := mF_mem.2 ⟨hn, e⟩
      obtain ⟨j, hj, ej⟩ := List.getElem_of_mem h1
      have h2 : (catF cl N c).length + j < (catF cl N (c + 1)).length := by
        rw [catF_succ, List.length_append]
        omega
      have h3 := hpos c hc ((catF cl N c).length + j) (by omega) h2
      have h4 : (catF cl N c).length + j - (catF cl N c).length = j := by omega
      rw [h4] at h3
      have h5 : (catF cl N C).getD ((catF cl N c).length + j) 0 = n := by
        rw [h3.1, ← ej]
        simp [List.getD, hj]
      have h6 := hle (c + 1) hc
      have h7 := idxN_get hnd (i := (catF cl N c).length + j) (by omega)
      rw [h5] at h7
      omega
    · rintro ⟨h1, h2⟩
      have h3 := hpos c hc _ h1 h2
      rw [hm.2] at h3
      have h4 := nget_mem h3.2
      rw [← h3.1] at h4
      exact (mF_mem.1 h4).2
def catR (cl : Nat → Nat) (N c : Nat) (i : Nat) : List Int :=
  if i = 0 then ints (catF cl N c) else if i = 1 then rowF N (fun _ => 0) else if i = 2 then rowF N (fun n => if cl n < c then cl n else 0) else if i = 3 then rowF c (fun c => (catF cl N c).length) else if i = 4 then rowF c (fun c => (catF cl N (c + 1)).length) else rowF c (fun _ => 0)
theorem ints_app (a b : List Nat) : ints (a ++ b) = ints a ++ ints b := by simp [ints]
theorem ints_drop (a b : List Nat) : ((ints (a ++ b)).drop a.length).take ((a ++ b).length - a.length) = ints b := by
  rw [ints_app, List.drop_append_of_le_length (by rw [ints_len]; exact Nat.le_refl _), List.drop_of_length_le (by rw [ints_len]; exact Nat.le_refl _), List.nil_append, List.take_of_length_le (by rw [ints_len, List.length_append]; omega)]
theorem catR_step (cl : Nat → Nat) (N c : Nat) : ∀ i, i < 6 → upd (upd (upd (upd (upd (catR cl N c) 0 (ints (catF cl N (c + 1)))) 2 (setL (catR cl N c 2) (((ints (catF cl N (c + 1))).drop (catF cl N c).length).take ((catF cl N (c + 1)).length - (catF cl N c).length)) (catR cl N c 3).length)) 3 (catR cl N c 3 ++ [((catF cl N c).length : Int)])) 4 (catR cl N c 4 ++ [((catF cl N (c + 1)).length : Int)])) 5 (catR cl N c 5 ++ [0]) i = catR cl N (c + 1) i := by
  refine six rfl rfl ?_ ?_ ?_ ?_
  · show setL (rowF N _) _ ((rowF c _).length : Nat) = rowF N _
    rw [rowF_len, catF_succ, ints_drop, setL_row _ _ _ _ (fun x hx => by
      obtain ⟨n, _, rfl⟩ := List.mem_map.1 hx
      omega)]
    refine rowF_congr fun n hn => ?_
    have hm : (n : Int) ∈ ints (mF cl N c) ↔ cl n = c := by
      unfold ints
      rw [List.mem_map]
      constructor
      · rintro ⟨m, hm, e⟩
        have e' : m = n := by omega
        subst e'
        exact (mF_mem.1 hm).2
      · intro e
        exact ⟨n, mF_mem.2 ⟨hn, e⟩, rfl⟩
    by_cases e : cl n = c
    · rw [if_pos (hm.2 e), if_pos (by omega), e]
    · rw [if_neg (fun h => e (hm.1 h))]
      by_cases e2 : cl n < c
      · rw [if_pos e2, if_pos (by omega)]
      · rw [if_neg e2, if_neg (by omega)]
  · show rowF c _ ++ [((catF cl N c).length : Int)] = rowF (c + 1) _
    rw [rowF_snoc]
    refine rowF_congr fun i _ => ?_
    unfold upd
    by_cases e : i = c
    · rw [if_pos e, e]
    · rw [if_neg e]
  · show rowF c _ ++ [((catF cl N (c + 1)).length : Int)] = rowF (c + 1) _
    rw [rowF_snoc]
    refine rowF_congr fun i _ => ?_
    unfold upd
    by_cases e : i = c
    · rw [if_pos e, e]
    · rw [if_neg e]
  · show rowF c _ ++ [((0 : Nat) : Int)] = rowF (c + 1) _
    rw [rowF_snoc]
    refine rowF_congr fun i _ => ?_
    unfold upd
    by_cases e : i = c
    · rw [if_pos e]
    · rw [if_neg e]
theorem catR_step2 (cl : Nat → Nat) (N c b : Nat) (hb : b = (catF cl N (c + 1)).length) : ∀ i, i < 6 → upd (upd (upd (upd (upd (catR cl N c) 0 (ints (catF cl N (c + 1)))) 2 (setL (catR cl N c 2) (((ints (catF cl N (c + 1))).drop (catF cl N c).length).take (b - (catF cl N c).length)) (catR cl N c 3).length)) 3 (catR cl N c 3 ++ [((catF cl N c).length : Int)])) 4 (catR cl N c 4 ++ [(b : Int)])) 5 (catR cl N c 5 ++ [0]) i = catR cl N (c + 1) i := by
  subst hb
  exact catR_step cl N c
def plK (L : List Nat) (k n : Nat) : Nat := if n ∈ L.take k then idxN L n else 0
theorem plK_step {L : List Nat} (hn : L.Nodup) {k : Nat} (hk : k < L.length) : upd (plK L k) (L.getD k 0) k = plK L (k + 1) := by
  funext n
  unfold upd plK
  rw [ntake_snoc hk]
  by_cases e : n = L.getD k 0
  · rw [if_pos e, if_pos (by simp [e]), e, idxN_get hn hk]
  · rw [if_neg e]
    by_cases e2 : n ∈ L.take k
    · rw [if_pos e2, if_pos (by simp [e2])]
    · rw [if_neg e2, if_neg (fun h => by
        rcases List.mem_append.1 h with h1 | h1
        · exact e2 h1
        · exact e (by simpa using h1))]
theorem catR_last {cl : Nat → Nat} {N C : Nat} (hlt : ∀ n, n < N → cl n < C) : ∀ i, i < 6 → upd (catR cl N C) 1 (rowF N (plK (catF cl N C) N)) i = (catS cl N C).rows N i := by
  have hlen := catF_len hlt
  refine six ?_ ?_ ?_ rfl rfl rfl
  · show ints (catF cl N C) = rowF N _
    apply List.ext_getElem
    · rw [ints_len, rowF_len, hlen]
    · intro i h1 h2
      rw [ints_len] at h1
      simp [ints, rowF, catS, List.getD, h1]
  · show rowF N _ = rowF N _
    refine rowF_congr fun n hn => ?_
    unfold plK
    rw [List.take_of_length_le (by omega), if_pos (catF_mem.2 ⟨hn, hlt n hn⟩)]
    rfl
  · show rowF N _ = rowF N cl
    refine rowF_congr fun n hn => ?_
    rw [if_pos (hlt n hn)]
end Go.Proofs.Ytjkcffcedbcjmaa
