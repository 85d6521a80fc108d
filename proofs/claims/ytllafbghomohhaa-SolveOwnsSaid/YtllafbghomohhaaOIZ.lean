/- The leads of the reference's classes: plain data. -/
import Derived.Test.YtllafbghomohhaaOFZ
import Derived.Test.YtllafbghomohhaaOHZ
import Derived.BigQuiet
import Derived.Test.YtllafbghomohhaaOGZ
namespace Go.Proofs.Ytllafbghomohhaa
open Go.RowKit

/-- What leads a class behind so many nodes. -/
def toV (ns : List Nd) (L : List Nat) : Nat → Nat → Int
  | 0, c => if c ∈ L then -1 else 0
  | j + 1, c => if L.getD j 0 = c ∧ (toV ns L j c < 0 ∨ ((ndN ns (toV ns L j c).toNat).kind = 1 ∧ (ndN ns j).kind ≠ 1)) then (j : Int) else toV ns L j c
def toL (ns : List Nd) (L : List Nat) (j : Nat) : List Int := (List.range L.length).map (toV ns L j)
theorem toL_len (ns : List Nd) (L : List Nat) (j : Nat) : (toL ns L j).length = L.length := by simp [toL]
theorem toL_get {ns : List Nd} {L : List Nat} {j c : Nat} (h : c < L.length) : (toL ns L j).getD c 0 = toV ns L j c := by simp [toL, List.getD, h]
theorem toL_hit {ns : List Nd} {L : List Nat} {j c : Nat} (hj : L.getD j 0 = c) (h : toV ns L j c < 0 ∨ ((ndN ns (toV ns L j c).toNat).kind = 1 ∧ (ndN ns j).kind ≠ 1)) : (toL ns L j).set c (j : Int) = toL ns L (j + 1) := by
  apply List.ext_getElem
  · simp [toL]
  · intro i h1 h2
    by_cases e : c = i
    · subst e
      rw [List.getElem_set_self]
      simp only [toL, List.getElem_map, List.getElem_range, toV]
      rw [if_pos ⟨hj, h⟩]
    · rw [List.getElem_set_ne e]
      simp only [toL, List.getElem_map, List.getElem_range, toV]
      rw [if_neg (fun x => e (hj.symm.trans x.1))]
theorem toL_miss {ns : List Nd} {L : List Nat} {j c : Nat} (hj : L.getD j 0 = c) (h : ¬ (toV ns L j c < 0 ∨ ((ndN ns (toV ns L j c).toNat).kind = 1 ∧ (ndN ns j).kind ≠ 1))) : toL ns L j = toL ns L (j + 1) := by
  unfold toL
  refine List.map_congr_left (fun i _ => ?_)
  show _ = if L.getD j 0 = i ∧ (toV ns L j i < 0 ∨ ((ndN ns (toV ns L j i).toNat).kind = 1 ∧ (ndN ns j).kind ≠ 1)) then (j : Int) else toV ns L j i
  by_cases e : L.getD j 0 = i
  · subst hj
    subst e
    rw [if_neg (fun x => h x.2)]
  · rw [if_neg (fun x => e x.1)]
/-- The first loop: classes get -1. -/
def ngL (L : List Nat) (j : Nat) : List Int := (List.range L.length).map (fun c => if c ∈ L.take j then -1 else 0)
theorem ngL_len (L : List Nat) (j : Nat) : (ngL L j).length = L.length := by simp [ngL]
theorem ngL_step {L : List Nat} {j : Nat} (h : j < L.length) : (ngL L j).set (L.getD j 0) (-1) = ngL L (j + 1) := by
  apply List.ext_getElem
  · simp [ngL]
  · intro i h1 h2
    have ht : L.take (j + 1) = L.take j ++ [L.getD j 0] := by rw [List.take_add_one]; simp [List.getD, h]
    by_cases e : L.getD j 0 = i
    · subst e
      rw [List.getElem_set_self]
      simp only [ngL, List.getElem_map, List.getElem_range, ht]
      simp
    · rw [List.getElem_set_ne e]
      simp only [ngL, List.getElem_map, List.getElem_range, ht]
      have : (i ∈ L.take j ++ [L.getD j 0]) ↔ i ∈ L.take j := by
        simp only [List.mem_append, List.mem_singleton]
        exact ⟨fun h => h.elim id (fun h => absurd h.symm e), Or.inl⟩
      simp only [this]
theorem ngL_zero (L : List Nat) : ngL L 0 = List.replicate L.length 0 := by
  unfold ngL
  apply List.ext_getElem
  · simp
  · intro i h1 h2
    simp
theorem ngL_all (ns : List Nd) (L : List Nat) : ngL L L.length = toL ns L 0 := by
  unfold ngL toL
  refine List.map_congr_left (fun i _ => ?_)
  rw [List.take_of_length_le (Nat.le_refl _)]
  rfl
theorem toV_inv {ns : List Nd} {L : List Nat} {c : Nat} (hc : c ∈ L) : ∀ j, (toV ns L j c = -1 ∧ ∀ i, i < j → L.getD i 0 ≠ c) ∨ (0 ≤ toV ns L j c ∧ toV ns L j c < (j : Int) ∧ L.getD (toV ns L j c).toNat 0 = c ∧ ((ndN ns (toV ns L j c).toNat).kind = 1 → ∀ i, i < j → L.getD i 0 = c → (ndN ns i).kind = 1))
  | 0 => Or.inl ⟨by unfold toV; rw [if_pos hc], fun i hi => absurd hi (Nat.not_lt_zero _)⟩
  | j + 1 => by
    have ih := toV_inv (ns := ns) hc j
    unfold toV
    by_cases e : L.getD j 0 = c
    · by_cases h : toV ns L j c < 0 ∨ ((ndN ns (toV ns L j c).toNat).kind = 1 ∧ (ndN ns j).kind ≠ 1)
      · rw [if_pos ⟨e, h⟩]
        refine Or.inr ⟨by omega, by omega, by rw [Int.toNat_natCast]; exact e, fun hk i hi he => ?_⟩
        rw [Int.toNat_natCast] at hk
        rcases h with h | ⟨_, h⟩
        · rcases ih with ⟨_, ih⟩ | ⟨ih, _⟩
          · rcases Nat.lt_or_eq_of_le (Nat.le_of_lt_succ hi) with h1 | h1
            · exact absurd he (ih i h1)
            · rw [h1]; exact hk
          · omega
        · exact absurd hk h
      · rw [if_neg (fun x => h x.2)]
        rcases ih with ⟨ih, _⟩ | ⟨i1, i2, i3, i4⟩
        · exact absurd (Or.inl (by omega)) h
        · refine Or.inr ⟨i1, by omega, i3, fun hk i hi he => ?_⟩
          rcases Nat.lt_or_eq_of_le (Nat.le_of_lt_succ hi) with h1 | h1
          · exact i4 hk i h1 he
          · rw [h1]
            exact Classical.byContradiction fun hne => h (Or.inr ⟨hk, hne⟩)
    · rw [if_neg (fun x => e x.1)]
      rcases ih with ⟨i1, i2⟩ | ⟨i1, i2, i3, i4⟩
      · refine Or.inl ⟨i1, fun i hi he => ?_⟩
        rcases Nat.lt_or_eq_of_le (Nat.le_of_lt_succ hi) with h1 | h1
        · exact i2 i h1 he
        · rw [h1] at he; exact e he
      · refine Or.inr ⟨i1, by omega, i3, fun hk i hi he => ?_⟩
        rcases Nat.lt_or_eq_of_le (Nat.le_of_lt_succ hi) with h1 | h1
        · exact i4 hk i h1 he
        · rw [h1] at he; exact absurd he e
/-- The lead of a node's class. -/
def ldE (ns : List Nd) (L : List Nat) (x : Nat) : Nat := if x < L.length then (toV ns L L.length (L.getD x 0)).toNat else x
theorem ldE_said {ns : List Nd} {L : List Nat} {x : Nat} (hx : x < L.length) : toV ns L L.length (L.getD x 0) = ((ldE ns L x : Nat) : Int) ∧ ldE ns L x < L.length ∧ L.getD (ldE ns L x) 0 = L.getD x 0 ∧ ((ndN ns (ldE ns L x)).kind = 1 → ∀ i, i < L.length → L.getD i 0 = L.getD x 0 → (ndN ns i).kind = 1) := by
  unfold ldE
  rw [if_pos hx]
  rcases toV_inv (ns := ns) (getD_memN hx) L.length with ⟨_, h⟩ | ⟨h1, h2, h3, h4⟩
  · exact absurd rfl (h x hx)
  · exact ⟨by omega, by omega, h3, h4⟩
theorem ldE_ker {ns : List Nd} {L : List Nat} {x y : Nat} (hx : x < L.length) (hy : y < L.length) : ldE ns L x = ldE ns L y ↔ L.getD x 0 = L.getD y 0 := by
  obtain ⟨_, _, h3, _⟩ := ldE_said (ns := ns) hx
  obtain ⟨_, _, k3, _⟩ := ldE_said (ns := ns) hy
  refine ⟨fun h => by rw [← h3, ← k3, h], fun h => ?_⟩
  unfold ldE
  rw [if_pos hx, if_pos hy, h]
theorem ldE_un {ns : List Nd} {P : List (Nat × Nat)} {L : List Nat} (hA : GoodA ns) (hP : ∀ p ∈ P, p.1 < ns.length ∧ p.2 < ns.length) (h : CloD ns P L) : Un ns P (ldE ns L) [] := by
  have hl := h.clo.len
  have hout : ∀ x, ¬ x < L.length → ldE ns L x = x := fun x hx => by unfold ldE; rw [if_neg hx]
  refine ⟨fun x hx => ?_, fun x => ?_, fun R hR hp => ⟨fun x y e => ?_, fun p hq => (by cases hq)⟩, fun p hq => (by cases hq), fun x hx hk => ?_, fun p hp => ?_⟩
  · have := (ldE_said (ns := ns) (L := L) (x := x) (by omega)).2.1
    omega
  · by_cases hx : x < L.length
    · obtain ⟨_, h2, h3, _⟩ := ldE_said (ns := ns) hx
      exact (ldE_ker h2 hx).2 h3
    · rw [hout x hx, hout x hx]
  · by_cases hx : x < L.length
    · by_cases hy : y < L.length
      · exact h.clo.min R hR hp x y hx hy ((ldE_ker hx hy).1 e)
      · have := (ldE_said (ns := ns) hx).2.1
        rw [hout y hy] at e
        omega
    · by_cases hy : y < L.length
      · have := (ldE_said (ns := ns) hy).2.1
        rw [hout x hx] at e
        omega
      · rw [hout x hx, hout y hy] at e
        subst e
        exact hR.refl x
  · have hx' : x < L.length := by omega
    obtain ⟨_, h2, h3, h4⟩ := ldE_said (ns := ns) hx'
    have hkE : (ndN ns (ldE ns L x)).kind ≠ 1 := fun e => hk (h4 e x hx' rfl)
    have hst : labS (ndN ns x) (ndN ns (ldE ns L x)) ∧ ∀ k, k < (ndN ns x).args.length → L.getD (argN ns x k) 0 = L.getD (argN ns (ldE ns L x) k) 0 := by
      rcases Nat.lt_trichotomy x (ldE ns L x) with hlt | he | hlt
      · exact h.stb x _ hlt (by omega) h3.symm hk hkE
      · rw [← he]
        exact ⟨labS.refl _, fun _ _ => rfl⟩
      · obtain ⟨l, ar⟩ := h.stb _ x hlt hx h3 hkE hk
        have l' := l.symm
        exact ⟨l', fun k hk' => (ar k (by rw [← l'.2.2.2]; exact hk')).symm⟩
    refine ⟨hkE, hst.1, fun k hk' R hR hr _ => hr _ _ ?_⟩
    have a1 := (hA.arg x hx k hk').2
    have a2 := (hA.arg (ldE ns L x) (by omega) k (by rw [← hst.1.2.2.2]; exact hk')).2
    exact (ldE_ker (by omega) (by omega)).2 (hst.2 k hk')
  · obtain ⟨h1, h2⟩ := hP p hp
    exact fun R hR hr _ => hr _ _ ((ldE_ker (by omega) (by omega)).2 (h.prs p hp))
/-- The graph node by node, by leads. -/
def wholeF (g : Gf) (E : Nat → Nat) : Gf := ⟨(List.range g.nodes.length).map (fun i => renum (EI E) (ndN g.nodes (E i))), g.roots.map (EI E)⟩
theorem whole_len (g : Gf) (E : Nat → Nat) : (wholeF g E).nodes.length = g.nodes.length := by simp [wholeF]
theorem whole_nd {g : Gf} {E : Nat → Nat} {x : Nat} (h : x < g.nodes.length) : (wholeF g E).nd (x : Int) = renum (EI E) (ndN g.nodes (E x)) := by
  simp [wholeF, Gf.nd, List.getD, h]
theorem whole_good {g : Gf} (hg : Good g) {E : Nat → Nat} (hE : ∀ x, x < g.nodes.length → E x < g.nodes.length) : Good (wholeF g E) := by
  have hEI : ∀ z : Int, 0 ≤ z ∧ z < (g.nodes.length : Int) → 0 ≤ EI E z ∧ EI E z < (g.nodes.length : Int) := fun z hz => by
    have := hE z.toNat (by omega)
    unfold EI
    omega
  refine ⟨by rw [whole_len]; exact hg.nodes, by simp [wholeF]; exact hg.roots, fun n hn => ?_, fun z hz => ?_⟩
  · obtain ⟨y, hy, rfl⟩ := List.mem_map.1 hn
    rw [whole_len]
    have hy' : y < g.nodes.length := by simpa using hy
    have hgd := hg.node (ndN g.nodes (E y)) (by simp [ndN, List.getD, hE y hy'])
    exact renum_good hgd (fun z hz => hEI z ((good_args hgd).1 z hz))
  · obtain ⟨y, hy, rfl⟩ := List.mem_map.1 hz
    rw [whole_len]
    exact hEI y (hg.root y hy)
theorem whole_pr {g : Gf} (hg : Good g) {P : List (Nat × Nat)} {E : Nat → Nat} (hU : Un g.nodes P E []) : Pr (wholeF g E) (gE g.nodes g.roots E) (fun u v => u = v ∧ ∃ x, x < g.nodes.length ∧ u = ((E x : Nat) : Int)) := by
  have hA := goodA_of hg
  have hlE : (gE g.nodes g.roots E).nodes.length = g.nodes.length := by simp [gE]
  have hnd : ∀ x, x < g.nodes.length → (wholeF g E).nd ((E x : Nat) : Int) = (gE g.nodes g.roots E).nd ((E x : Nat) : Int) := fun x hx => by
    rw [whole_nd (hU.rng x hx), gE_nd (hU.rng x hx), hU.idem]
  refine ⟨?_, ?_, ?_, ?_, ?_, by simp [wholeF, gE], ?_⟩
  · rintro u v ⟨rfl, x, hx, rfl⟩
    have := hU.rng x hx
    exact ⟨⟨by omega, by rw [whole_len]; omega⟩, by omega, by rw [hlE]; omega⟩
  · rintro u v ⟨rfl, x, hx, rfl⟩
    rw [hnd x hx]
    exact ⟨rfl, rfl, rfl, rfl⟩
  · rintro u v ⟨rfl, x, hx, rfl⟩ k hk
    have hEx := hU.rng x hx
    rw [hnd x hx, gE_nd hEx] at hk
    have hk1 : k < (ndN g.nodes (E x)).args.length := by simpa [renum] using hk
    refine ⟨?_, argN g.nodes (E x) k, (hA.arg _ hEx k hk1).2, ?_⟩
    · unfold Gf.arg
      rw [hnd x hx]
    · unfold Gf.arg
      rw [hnd x hx, gE_nd hEx]
      simp [renum, List.getD, hk1, EI, argN]
  · rintro u v v' ⟨rfl, _⟩ ⟨rfl, _⟩ _
    rfl
  · rintro u u' v ⟨rfl, _⟩ ⟨rfl, _⟩ _
    rfl
  · intro i hi
    have hi' : i < g.roots.length := by simpa [wholeF] using hi
    have hr := hg.root (g.roots.getD i 0) (getD_mem hi')
    refine ⟨by simp [wholeF, gE, List.getD, hi', EI], (g.roots.getD i 0).toNat, by omega, ?_⟩
    simp [wholeF, List.getD, hi', EI]
theorem whole_least {g : Gf} (hg : Good g) {ps : List (Int × Int)} {E : Nat → Nat} (hU : Un g.nodes (ps.map natP) E []) {ee : Nat → Nat → Bool} (he : ∀ x y : Nat, (ee x y = true ↔ Al (trimF (wholeF g E)) (x : Int) (y : Int))) : LeastS g ps (trimF (quoF ee (trimF (wholeF g E)))) := by
  have hw := whole_good hg hU.rng
  obtain ⟨e1, h1⟩ := al_dec (wholeF g E)
  obtain ⟨e2, h2⟩ := al_dec (gE g.nodes g.roots E)
  refine ⟨E, e2, hU, h2, ?_⟩
  rw [Pr.least (trim_good0 hw) hw he h1 (trim_pair hw)]
  exact Pr.least hw (gE_good hg hU.rng) h1 h2 (whole_pr hg hU)
theorem cntN_same {E F : Nat → Nat} {i : Nat} (h : ∀ k, E k = E i ↔ F k = F i) : ∀ j, cntN E (E i) j = cntN F (F i) j
  | 0 => rfl
  | j + 1 => by
    unfold cntN
    rw [cntN_same h j]
    by_cases e : E j = E i
    · rw [if_pos e, if_pos ((h j).1 e)]
    · rw [if_neg e, if_neg (fun x => e ((h j).2 x))]
/-- What hangs is one. -/
theorem hang_uniq {ns : List Nd} {P : List (Nat × Nat)} {E F : Nat → Nat} (hU : Un ns P E []) (hV : Un ns P F []) : ∀ j, hangF ns E j = hangF ns F j
  | 0 => rfl
  | j + 1 => by
    obtain ⟨hC, hp, hm⟩ := hU.done
    obtain ⟨hC', hp', hm'⟩ := hV.done
    unfold hangF
    rw [hang_uniq hU hV j, cntN_same (F := F) (fun k => ⟨fun e => hm _ hC' hp' k j e, fun e => hm' _ hC hp k j e⟩)]
theorem cntN_pos {E : Nat → Nat} {m : Nat} : ∀ {N : Nat}, 0 < cntN E m N ↔ ∃ j, j < N ∧ E j = m
  | 0 => ⟨fun h => absurd h (Nat.lt_irrefl _), fun ⟨_, h, _⟩ => absurd h (Nat.not_lt_zero _)⟩
  | N + 1 => by
    unfold cntN
    have ih := cntN_pos (E := E) (m := m) (N := N)
    by_cases e : E N = m
    · rw [if_pos e]
      exact ⟨fun _ => ⟨N, by omega, e⟩, fun _ => by omega⟩
    · rw [if_neg e, Nat.add_zero, ih]
      exact ⟨fun ⟨j, h1, h2⟩ => ⟨j, by omega, h2⟩, fun ⟨j, h1, h2⟩ => ⟨j, by rcases Nat.lt_or_eq_of_le (Nat.le_of_lt_succ h1) with h | h; exact h; exact absurd (h ▸ h2) e, h2⟩⟩
theorem cntN_two {E : Nat → Nat} {i : Nat} : ∀ {N : Nat}, i < N → (1 < cntN E (E i) N ↔ ∃ j, j < N ∧ j ≠ i ∧ E j = E i)
  | 0, h => absurd h (Nat.not_lt_zero _)
  | N + 1, h => by
    unfold cntN
    by_cases e : i = N
    · subst e
      rw [if_pos rfl]
      have := cntN_pos (E := E) (m := E i) (N := i)
      constructor
      · intro h1
        obtain ⟨j, h2, h3⟩ := this.1 (by omega)
        exact ⟨j, by omega, by omega, h3⟩
      · rintro ⟨j, h1, h2, h3⟩
        have := this.2 ⟨j, by omega, h3⟩
        omega
    · have ih := cntN_two (E := E) (N := N) (by omega : i < N)
      by_cases e2 : E N = E i
      · rw [if_pos e2]
        have := (cntN_pos (E := E) (m := E i) (N := N)).2 ⟨i, by omega, rfl⟩
        exact ⟨fun _ => ⟨N, by omega, fun x => e x.symm, e2⟩, fun _ => by omega⟩
      · rw [if_neg e2, Nat.add_zero, ih]
        exact ⟨fun ⟨j, h1, h2⟩ => ⟨j, by omega, h2⟩, fun ⟨j, h1, h2, h3⟩ => ⟨j, by rcases Nat.lt_or_eq_of_le (Nat.le_of_lt_succ h1) with h | h; exact h; exact absurd (h ▸ h3) e2, h2, h3⟩⟩
end Go.Proofs.Ytllafbghomohhaa

/- lead of the reference, walked. -/
namespace Go.Proofs.Ytllafbghomohhaa
open Go.RowKit

/-- The graph's box and a row of numbers behind it. -/
structure Kd (W : World) (nv rv : Value) (N : Nat) (T : List Int) (w : World) : Prop where
  b : Below W.heap.size W w
  g : w.heap[W.heap.size]? = some (.cells #[nv, rv] 25)
  p : w.ownsRow (W.heap.size + 1) 3 1 (.slice (some ⟨W.heap.size + 1, 0, none⟩) N N) N (T.map (Value.int .i64))
  l : T.length = N
section
variable {W w w' : World} {nv rv : Value} {N : Nat} {T : List Int}
theorem Kd.next (h : Kd W nv rv N T w) (hb : Below w.heap.size w w') : Kd W nv rv N T w' := ⟨h.b.trans (hb.mono h.b.size), (hb.block _ (lt_of_block h.g)).trans h.g, row_keep h.p (fun k hk => hb.block k (h.p.lt k hk).2), h.l⟩
theorem Kd.cell (h : Kd W nv rv N T w) {i : Nat} (hi : i < N) : w.cell? ⟨W.heap.size + 1, i, none⟩ = some (.int .i64 (T.getD i 0)) ∧ w.frozen? ⟨W.heap.size + 1, i, none⟩ = false :=
  ⟨by rw [h.p.cellAt i (by omega)]; have := h.l; simp [List.getD, show i < T.length by omega], h.p.frozenAt i⟩
theorem Kd.set (h : Kd W nv rv N T w) (n : Nat) (v : Int) : Kd W nv rv N (T.set n v) (w.setCell ⟨W.heap.size + 1, n, none⟩ (.int .i64 v)) := by
  refine ⟨h.b.setCell (p := ⟨W.heap.size + 1, n, none⟩) (by show W.heap.size ≤ W.heap.size + 1; omega) _, (Below.heap_setCell _ _ _ _ (by show W.heap.size ≠ W.heap.size + 1; omega)).trans h.g, ?_, by simp [h.l]⟩
  have h3 := (World.ownsRow.stored h.p n (.int .i64 v)).1
  rw [List.map_set]
  exact h3
theorem Kd.box (h : Kd W nv rv N T w) : (w.cell? ⟨W.heap.size, 0, none⟩ = some nv ∧ w.cell? ⟨W.heap.size, 1, none⟩ = some rv) ∧ W.heap.size < w.heap.size ∧ W.heap.size + 1 < w.heap.size := by
  obtain ⟨a, _⟩ := blk2y h.g
  exact ⟨a, lt_of_block h.g, (h.p.lt _ rfl).2⟩
theorem kd_start {w1 : World} {L : List Nat} (hL : L.length = N) (hown : w1.ownsRow (W.heap.size + 1) 3 1 (.slice (some ⟨(W.alloc (.cells #[nv, rv] 25)).heap.size, 0, none⟩) N N) N (madeCells (Value.int .i64 0).cells (N * 1)).toList) (hgrow : (W.alloc (.cells #[nv, rv] 25)).grownBy w1 none) : Kd W nv rv N (ngL L 0) w1 := by
  have hsz : (W.alloc (.cells #[nv, rv] 25)).heap.size = W.heap.size + 1 := by simp
  rw [hsz] at hown
  refine ⟨(below_alloc W _).grown hgrow (by omega) (fun _ e => by cases e), ?_, ?_, by rw [ngL_len]; exact hL⟩
  · rw [hgrow.block _ (by simp) (fun e => by cases e)]
    exact heap_alloc_new W _
  · rw [ngL_zero, hL]
    rw [show (madeCells (Value.int .i64 0).cells (N * 1)).toList = List.replicate N (.int .i64 0) by rw [Nat.mul_one]; simp [Value.cells, toList_madeCells_one]] at hown
    simpa using hown
end
/-- A node's kind, where it lies. -/
theorem gr_kind {W w : World} {na : Option Addr} {nc : Nat} {rv : Value} {g : Gf} (hG : Gr W (.slice na g.nodes.length nc) rv g) (hb : Below W.heap.size W w) {x : Nat} (hx : x < g.nodes.length) : ∃ b o, na = some ⟨b, o, none⟩ ∧ w.cell? ⟨b, o + x * 4, none⟩ = some (.int .i64 (ndN g.nodes x).kind) := by
  obtain ⟨na', nc', e, hc⟩ := hG.1
  injection e with e1 _ _
  subst e1
  obtain ⟨b, o, av, rfl, h0⟩ := hc x hx
  obtain ⟨p0, _⟩ := h0.below hb
  exact ⟨b, o, rfl, p0⟩
set_option maxRecDepth 100000 in
set_option maxHeartbeats 8000000 in
theorem lead_any {W : World} {nv rv cv : Value} {g : Gf} {L : List Nat} (hG : Gr W nv rv g) (hC : Ri W cv (ints L)) (hL : L.length = g.nodes.length) (hr : ∀ i, i < L.length → L.getD i 0 < L.length) (hN : g.nodes.length ≤ 10000) :
    Calls Try.prog 54 #[.agg #[nv, rv], cv] W fun e w' => e = .returned (.slice (some ⟨W.heap.size + 1, 0, none⟩) g.nodes.length g.nodes.length) ∧ w'.ownsRow (W.heap.size + 1) 3 1 (.slice (some ⟨W.heap.size + 1, 0, none⟩) g.nodes.length g.nodes.length) g.nodes.length ((toL g.nodes L L.length).map (Value.int .i64)) ∧ Below W.heap.size W w' := by
  obtain ⟨i0, hi, hz0, hz1, hz2⟩ := info_parts infoI
  have HG := hid hG
  have HC := hid hC
  have HL := hid hL
  have Hr := hid hr
  obtain ⟨na, nc, rfl, _⟩ := hG.1
  obtain ⟨ra, rc, rfl, _⟩ := hG.2
  obtain ⟨ca, cc, rfl, _⟩ := hC
  have hlc : (ints L).length = g.nodes.length := by simp [ints, hL]
  rw [hlc] at HC ⊢
  clear hG hL hr hlc
  have hcl : Hid (∀ (w : World) (i : Nat), i < g.nodes.length → Below W.heap.size W w → ∃ b o, ca = some ⟨b, o, none⟩ ∧ w.cell? ⟨b, o + i, none⟩ = some (.int .i64 ((L.getD i 0 : Nat) : Int)) ∧ L.getD i 0 < g.nodes.length ∧ L.getD i 0 ∈ L) := fun w i hi hb => by
    have hL := HL.out
    obtain ⟨ao, c, e, h⟩ := HC.out.below hb
    injection e with e1 _ _
    subst e1
    obtain ⟨b, o, e, h⟩ := h i (by simp [ints, hL]; exact hi)
    rw [ints_get (by omega)] at h
    exact ⟨b, o, e, h, by rw [← hL]; exact Hr.out i (by omega), getD_memN (by omega)⟩
  clear HC Hr
  go_enter Try.func54, Try.ntmps54
  go_wp2_with (at_make; go_must (refine wpList_make_full _ rfl _ _ 23 rfl (W.heap.size + 1) 3 i0 (.int .i64 0) 1 Try.underlying23 hi hz0 hz1 .i64 .i64 _ _ g.nodes.length rfl rfl rfl rfl (by rw [hz2]; omega) (by unfold maxLen; omega) (by simp) ?_; intro w1 hown1 hgrow1; have hC0 := hid (kd_start HL.out hown1 hgrow1); clear hown1 hgrow1))
  go_loopw [6] (fun i wr => ∃ j : Nat, j ≤ g.nodes.length ∧ i = .int .i64 (j : Int) ∧ Hid (Kd W (.slice na g.nodes.length nc) (.slice ra g.roots.length rc) g.nodes.length (ngL L j) wr)) (fun i _ => g.nodes.length - (intOf i).toNat)
  case atStart => exact ⟨0, Nat.zero_le _, rfl, hC0⟩
  case round =>
    clear hC0
    obtain ⟨j, hj, rfl, hK⟩ := hrel
    by_cases hlt : j < g.nodes.length
    · have hji : (j : Int) < (g.nodes.length : Int) := by omega
      obtain ⟨cb, co, e, c0, hr, hm⟩ := hcl.out wr j hlt hK.out.b
      subst e
      have hst := hid (ngL_step (L := L) (j := j) (by rw [HL.out]; exact hlt))
      have Hset := hid (hK.out.set (L.getD j 0) (-1))
      generalize L.getD j 0 = c at *
      have hci : (c : Int) < (g.nodes.length : Int) := by omega
      obtain ⟨d0, d1⟩ := hK.out.cell hr
      have z0 := lt_of_cell c0
      have z1 := lt_of_cell d0
      rw [hst.out] at Hset
      clear hm hst
      go_wp2
      go_roundw
      case rel => exact ⟨j + 1, by omega, by go_num, Hset⟩
      case measure => simp [intOf]; omega
    · obtain rfl : j = g.nodes.length := by omega
      have hK0 : Hid (Kd W (.slice na g.nodes.length nc) (.slice ra g.roots.length rc) g.nodes.length (toL g.nodes L 0) wr) := by
        have := hK.out
        rw [← HL.out, ngL_all g.nodes L, HL.out] at this
        exact this
      clear hK
      go_wp2
      go_loopw [7] (fun i wr => ∃ j : Nat, j ≤ g.nodes.length ∧ i = .int .i64 (j : Int) ∧ Hid (Kd W (.slice na g.nodes.length nc) (.slice ra g.roots.length rc) g.nodes.length (toL g.nodes L j) wr)) (fun i _ => g.nodes.length - (intOf i).toNat)
      case atStart => exact ⟨0, Nat.zero_le _, rfl, hK0⟩
      case round =>
        clear hK0 hlt hj
        obtain ⟨j, hj, rfl, hK⟩ := hrel
        by_cases hlt : j < g.nodes.length
        · have hji : (j : Int) < (g.nodes.length : Int) := by omega
          obtain ⟨cb, co, e, c0, hr, hm⟩ := hcl.out wr j hlt hK.out.b
          subst e
          obtain ⟨nb, no, e, k0⟩ := gr_kind HG.out hK.out.b hlt
          subst e
          obtain ⟨⟨b0, b1⟩, b2, b3⟩ := hK.out.box
          have hinv := toV_inv (ns := g.nodes) hm j
          have hhit := hid (fun h => toL_hit (ns := g.nodes) (L := L) (j := j) rfl h)
          have hmis := hid (fun h => toL_miss (ns := g.nodes) (L := L) (j := j) rfl h)
          have Hset := hid (fun w' (hb : Below wr.heap.size wr w') => (hK.out.next hb).set (L.getD j 0) (j : Int))
          obtain ⟨d0, d1⟩ := hK.out.cell hr
          rw [toL_get (by rw [HL.out]; exact hr)] at d0
          generalize toV g.nodes L j (L.getD j 0) = t at *
          generalize L.getD j 0 = c at *
          have hci : (c : Int) < (g.nodes.length : Int) := by omega
          have z0 := lt_of_cell c0
          have zk := lt_of_cell k0
          rcases hinv with ⟨rfl, _⟩ | ⟨t0, t1, _, _⟩
          · have hh := hid (hhit.out (Or.inl (by omega)))
            clear hhit hmis hm
            go_wp2
            go_quiet (fail)
            go_wp2
            go_roundw
            case rel => exact ⟨j + 1, by omega, by go_num, (show Kd _ _ _ _ _ _ by rw [← hh.out]; exact Hset.out _ (below_drewN (Below.refl _ _) _))⟩
            case measure => simp [intOf]; omega
          · obtain ⟨tn, rfl⟩ : ∃ tn : Nat, t = (tn : Int) := ⟨t.toNat, by omega⟩
            have htn : tn < g.nodes.length := by omega
            have hti : (tn : Int) < (g.nodes.length : Int) := by omega
            obtain ⟨nb2, no2, e, k1⟩ := gr_kind HG.out hK.out.b htn
            have e1 : nb = nb2 ∧ no = no2 := by
              injection e with e
              injection e with e1 e2 _
              exact ⟨e1, e2⟩
            obtain ⟨rfl, rfl⟩ := e1
            clear e
            have zk1 := lt_of_cell k1
            rw [Int.toNat_natCast] at hhit hmis
            have s0 : decide ((tn : Int) < 0) = false := decide_eq_false (by omega)
            by_cases s1 : (ndN g.nodes tn).kind = 1
            · rw [s1] at k1
              by_cases s2 : (ndN g.nodes j).kind = 1
              · have hh := hid (hmis.out (fun h => h.elim (fun h => by omega) (fun h => h.2 s2)))
                rw [s2] at k0
                clear hhit hmis hm Hset
                go_wp2
                go_quiet (fail)
                go_wp2
                go_roundw
                case rel => exact ⟨j + 1, by omega, by go_num, (show Kd _ _ _ _ _ _ by rw [← hh.out]; exact hK.out.next (below_drewN (Below.refl _ _) _))⟩
                case measure => simp [intOf]; omega
              · have hh := hid (hhit.out (Or.inr ⟨s1, s2⟩))
                have s3 : ((ndN g.nodes j).kind != 1) = true := by simpa using s2
                generalize (ndN g.nodes j).kind = kj at *
                clear hhit hmis hm s2
                go_wp2
                go_quiet (fail)
                go_wp2
                go_roundw
                case rel => exact ⟨j + 1, by omega, by go_num, (show Kd _ _ _ _ _ _ by rw [← hh.out]; exact Hset.out _ (below_drewN (Below.refl _ _) _))⟩
                case measure => simp [intOf]; omega
            · have hh := hid (hmis.out (fun h => h.elim (fun h => by omega) (fun h => s1 h.1)))
              have s3 : ((ndN g.nodes tn).kind == 1) = false := by simpa using s1
              generalize (ndN g.nodes tn).kind = kt at *
              clear hhit hmis hm Hset s1
              go_wp2
              go_quiet (fail)
              go_wp2
              go_roundw
              case rel => exact ⟨j + 1, by omega, by go_num, (show Kd _ _ _ _ _ _ by rw [← hh.out]; exact hK.out.next (below_drewN (Below.refl _ _) _))⟩
              case measure => simp [intOf]; omega
        · obtain rfl : j = g.nodes.length := by omega
          have h9 := hK.out
          have h8 := h9.p
          rw [← HL.out] at h8
          go_wp2
          go_ret
          refine ⟨rfl, ?_, h9.b⟩
          rw [← HL.out]
          exact h8
end Go.Proofs.Ytllafbghomohhaa

/- Instances: plain data. -/
namespace Go.Proofs.Ytllafbghomohhaa
open Go.RowKit

theorem nd_int (A : Gf) (z : Nat) : A.nd (z : Int) = ndN A.nodes z := by simp [Gf.nd, ndN]
theorem good_ndI {g : Gf} (hg : Good g) {x : Int} (h : isN g x) : goodNd g.nodes.length (g.nd x) = true := by
  have h0 := h.1
  have h1 := h.2
  refine hg.node _ ?_
  unfold Gf.nd
  rw [List.getD, List.getElem?_eq_getElem (show x.toNat < g.nodes.length by omega)]
  simp
/-- A graph's nodes, numbered from a place on, its variables standing for themselves. -/
def fixN1 (first n : Nat) (y : Nd) : Nd := if y.kind = 1 then ⟨0, ⟨#[]⟩, (n : Int), []⟩ else ⟨y.kind, y.name, y.num, y.args.map (fun a => (first : Int) + a)⟩
def fixedF (first : Nat) : Nat → List Nd → List Nd
  | _, [] => []
  | n, y :: r => fixN1 first n y :: fixedF first (n + 1) r
theorem fixedF_len (first : Nat) : ∀ n l, (fixedF first n l).length = l.length
  | _, [] => rfl
  | n, _ :: r => by simp [fixedF, fixedF_len first (n + 1) r]
theorem fixedF_get (first : Nat) : ∀ n (l : List Nd) j, j < l.length → (fixedF first n l).getD j nd0 = fixN1 first (n + j) (l.getD j nd0)
  | _, [], _, h => by simp at h
  | n, y :: r, 0, _ => by simp [fixedF]
  | n, y :: r, j + 1, h => by
    have := fixedF_get first (n + 1) r j (by simpa using h)
    rw [show n + (j + 1) = n + 1 + j by omega]
    simpa [fixedF] using this
/-- The nodes of both, one behind the other. -/
def bothN (p t : Gf) : List Nd := p.nodes ++ fixedF p.nodes.length 0 t.nodes
theorem bothN_len (p t : Gf) : (bothN p t).length = p.nodes.length + t.nodes.length := by simp [bothN, fixedF_len]
theorem bothN_left (p t : Gf) {x : Nat} (hx : x < p.nodes.length) : ndN (bothN p t) x = p.nd (x : Int) := by
  simp [bothN, ndN, Gf.nd, List.getD, List.getElem?_append_left hx]
theorem bothN_right (p t : Gf) {y : Nat} (hy : y < t.nodes.length) : ndN (bothN p t) (p.nodes.length + y) = fixN1 p.nodes.length y (t.nd (y : Int)) := by
  have h := fixedF_get p.nodes.length 0 t.nodes y hy
  rw [Nat.zero_add] at h
  unfold ndN bothN
  rw [List.getD, List.getElem?_append_right (by omega), Nat.add_sub_cancel_left]
  simpa [Gf.nd, List.getD] using h
/-- The pairs of roots. -/
def rtP (p t : Gf) : List (Nat × Nat) := (List.range p.roots.length).map (fun i => ((p.roots.getD i 0).toNat, p.nodes.length + (t.roots.getD i 0).toNat))
/-- Which node of the one stands for which of the other. -/
structure Ins (p t : Gf) (S : Int → Int → Prop) : Prop where
  rng : ∀ x y, S x y → isN p x ∧ isN t y
  lab : ∀ x y, S x y → (p.nd x).kind ≠ 1 → (p.nd x).kind = (t.nd y).kind ∧ (p.nd x).name = (t.nd y).name ∧ (p.nd x).num = (t.nd y).num ∧ (p.nd x).args.length = (t.nd y).args.length
  arg : ∀ x y, S x y → (p.nd x).kind ≠ 1 → ∀ k, k < (p.nd x).args.length → S (p.arg x k) (t.arg y k)
  var : ∀ x y y', S x y → S x y' → (p.nd x).kind = 1 → Al t y y'
  len : p.roots.length = t.roots.length
  root : ∀ i, i < p.roots.length → S (p.roots.getD i 0) (t.roots.getD i 0)
/-- What stands for nodes that unfold alike unfolds alike. -/
theorem Ins.al {p t : Gf} {S : Int → Int → Prop} (h : Ins p t S) {x x' y y' : Int} (hal : Al p x x') (h1 : S x y) (h2 : S x' y') : Al t y y' := by
  refine ⟨fun u v => Al t u v ∨ ∃ s s', Al p s s' ∧ S s u ∧ S s' v, fun u v huv => ?_, Or.inr ⟨x, x', hal, h1, h2⟩⟩
  rcases huv with hA | ⟨s, s', hs, hu, hv⟩
  · obtain ⟨a1, a2, a3, a4⟩ := al_sim t u v hA
    exact ⟨a1, a2, a3, fun k hk => Or.inl (a4 k hk)⟩
  · obtain ⟨_, _, hl, ha⟩ := al_sim p s s' hs
    by_cases hk : (p.nd s).kind = 1
    · have e : s = s' := hl.2.2.2.2 hk
      subst e
      obtain ⟨a1, a2, a3, a4⟩ := al_sim t u v (h.var s u v hu hv hk)
      exact ⟨a1, a2, a3, fun k hk => Or.inl (a4 k hk)⟩
    · have hk' : (p.nd s').kind ≠ 1 := by rw [← hl.1]; exact hk
      obtain ⟨l1, l2, l3, l4⟩ := h.lab s u hu hk
      obtain ⟨m1, m2, m3, m4⟩ := h.lab s' v hv hk'
      refine ⟨(h.rng s u hu).2, (h.rng s' v hv).2, ⟨by rw [← l1, ← m1]; exact hl.1, by rw [← l2, ← m2]; exact hl.2.1, by rw [← l3, ← m3]; exact hl.2.2.1, by rw [← l4, ← m4]; exact hl.2.2.2.1, fun hv1 => absurd (l1.trans hv1) hk⟩, fun k hkk => ?_⟩
      have hk1 : k < (p.nd s).args.length := by rw [l4]; exact hkk
      have hk2 : k < (p.nd s').args.length := by rw [← hl.2.2.2.1]; exact hk1
      exact Or.inr ⟨_, _, ha k hk1, h.arg s u hu hk k hk1, h.arg s' v hv hk' k hk2⟩
theorem Ins.refl {p : Gf} (hg : Good p) : Ins p p (fun x y => isN p x ∧ x = y) :=
  ⟨fun x y h => ⟨h.1, h.2 ▸ h.1⟩, fun x y h _ => by rw [h.2]; exact ⟨rfl, rfl, rfl, rfl⟩, fun x y h _ k hk => ⟨arg_isN hg h.1 hk, by rw [h.2]⟩, fun x y y' h h' _ => by rw [← h.2, ← h'.2]; exact al_refl hg h.1, rfl, fun i hi => ⟨hg.root _ (getD_mem hi), rfl⟩⟩
theorem Ins.trans {a b c : Gf} {S T : Int → Int → Prop} (h : Ins a b S) (k : Ins b c T) : ∃ U, Ins a c U := by
  refine ⟨fun x z => ∃ y, S x y ∧ T y z, fun x z ⟨y, hs, ht⟩ => ⟨(h.rng x y hs).1, (k.rng y z ht).2⟩, fun x z ⟨y, hs, ht⟩ hk => ?_, fun x z ⟨y, hs, ht⟩ hk j hj => ?_, fun x z z' ⟨y, hs, ht⟩ ⟨y', hs', ht'⟩ hk => k.al (h.var x y y' hs hs' hk) ht ht', h.len.trans k.len, fun i hi => ⟨_, h.root i hi, k.root i (by rw [← h.len]; exact hi)⟩⟩
  · obtain ⟨l1, l2, l3, l4⟩ := h.lab x y hs hk
    obtain ⟨m1, m2, m3, m4⟩ := k.lab y z ht (by rw [← l1]; exact hk)
    exact ⟨l1.trans m1, l2.trans m2, l3.trans m3, l4.trans m4⟩
  · obtain ⟨l1, l2, l3, l4⟩ := h.lab x y hs hk
    exact ⟨_, h.arg x y hs hk j hj, k.arg y z ht (by rw [← l1]; exact hk) j (by rw [← l4]; exact hj)⟩
/-- Pairs that are come to from the roots by one way. -/
inductive Way2 (a b : Gf) : Int → Int → Prop
  | root (i : Nat) (hi : i < a.roots.length) : Way2 a b (a.roots.getD i 0) (b.roots.getD i 0)
  | arg {x y : Int} (k : Nat) (h : Way2 a b x y) (hk : k < (a.nd x).args.length) : Way2 a b (a.arg x k) (b.arg y k)
theorem way2_both {a b : Gf} {S T : Int → Int → Prop} (hga : Good a) (h : Ins a b S) (k : Ins b a T) : ∀ {x y : Int}, Way2 a b x y → S x y ∧ T y x := by
  have hvar : ∀ (g : Gf), Good g → ∀ x, isN g x → (g.nd x).kind = 1 → (g.nd x).args = [] := fun g hg x hx hk => by
    have hx0 := hx.1
    have hx1 := hx.2
    have h := (goodA_of hg).var x.toNat (by
      show (ndN g.nodes x.toNat).kind = 1
      rw [← nd_int g x.toNat, show ((x.toNat : Nat) : Int) = x by omega]
      exact hk)
    rw [← nd_int g x.toNat, show ((x.toNat : Nat) : Int) = x by omega] at h
    exact h
  intro x y hw
  induction hw with
  | root i hi => exact ⟨h.root i hi, k.root i (by rw [← h.len]; exact hi)⟩
  | @arg x y j hxy hj ih =>
    obtain ⟨hs, ht⟩ := ih
    have hkx : (a.nd x).kind ≠ 1 := fun hk => by rw [hvar a hga x (h.rng x y hs).1 hk] at hj; simp at hj
    obtain ⟨l1, l2, l3, l4⟩ := h.lab x y hs hkx
    exact ⟨h.arg x y hs hkx j hj, k.arg y x ht (by rw [← l1]; exact hkx) j (by rw [← l4]; exact hj)⟩
/-- Instances of one another: a pairing. -/
theorem ins_pr {a b : Gf} {S T : Int → Int → Prop} (hga : Good a) (hgb : Good b) (h : Ins a b S) (k : Ins b a T) : Pr a b (Way2 a b) := by
  have hb := fun {x y : Int} (hw : Way2 a b x y) => way2_both hga h k hw
  have hkind : ∀ x y, Way2 a b x y → ((a.nd x).kind = 1 ↔ (b.nd y).kind = 1) := fun x y hw => by
    obtain ⟨hs, ht⟩ := hb hw
    constructor
    · intro hx
      apply Classical.byContradiction
      intro hy
      exact hy ((k.lab y x ht hy).1.trans hx)
    · intro hy
      apply Classical.byContradiction
      intro hx
      exact hx ((h.lab x y hs hx).1.trans hy)
  refine ⟨fun x y hw => h.rng x y (hb hw).1, fun x y hw => ?_, fun x y hw j hj => .arg j hw hj, fun x y y' hw hw' hk => ?_, fun x x' y hw hw' hk => ?_, h.len, fun i hi => .root i hi⟩
  · by_cases hk : (a.nd x).kind = 1
    · have hk' := (hkind x y hw).1 hk
      obtain ⟨r1, r2⟩ := h.rng x y (hb hw).1
      have e1 := r1.1
      have e2 := r1.2
      have e3 := r2.1
      have e4 := r2.2
      have ga := good_ndI hga r1
      have gb := good_ndI hgb r2
      unfold goodNd at ga gb
      rw [if_pos hk] at ga
      rw [if_pos hk'] at gb
      simp only [Bool.and_eq_true, decide_eq_true_eq] at ga gb
      exact ⟨hk.trans hk'.symm, str_eq (ga.1.1.trans gb.1.1.symm), ga.1.2.trans gb.1.2.symm, ga.2.trans gb.2.symm⟩
    · exact h.lab x y (hb hw).1 hk
  · have hal := h.var x y y' (hb hw).1 (hb hw').1 hk
    exact (al_sim b y y' hal).2.2.1.2.2.2.2 ((hkind x y hw).1 hk)
  · have hal := k.var y x x' (hb hw).2 (hb hw').2 hk
    exact (al_sim a x x' hal).2.2.1.2.2.2.2 ((hkind x y hw).2 hk)
/-- A pairing makes instances both ways. -/
theorem pr_ins {a b : Gf} (hgb : Good b) {R : Int → Int → Prop} (h : Pr a b R) : Ins a b R :=
  ⟨h.rng, fun x y r _ => h.lab x y r, fun x y r _ k hk => h.arg x y r k hk, fun x y y' r r' hk => by rw [h.v1 x y y' r r' hk]; exact al_refl hgb (h.rng x y' r').2, h.len, h.root⟩
end Go.Proofs.Ytllafbghomohhaa

/- Instances and unifiers: plain data. -/
namespace Go.Proofs.Ytllafbghomohhaa
open Go.RowKit

theorem good_kind0 {g : Gf} (hg : Good g) {x : Int} (h : isN g x) : (g.nd x).kind ≠ 0 := fun hk => by
  have := good_ndI hg h
  unfold goodNd at this
  simp [hk] at this
theorem good_varA {g : Gf} (hg : Good g) {x : Int} (h : isN g x) (hk : (g.nd x).kind = 1) : (g.nd x).args.length = 0 := by
  have := good_ndI hg h
  unfold goodNd at this
  rw [if_pos hk] at this
  simp only [Bool.and_eq_true, decide_eq_true_eq] at this
  exact this.2
theorem fixN1_kind (f n : Nat) (y : Nd) : (fixN1 f n y).kind ≠ 1 := by
  unfold fixN1
  split
  · simp
  · assumption
theorem fixN1_var {f n : Nat} {y : Nd} (h : y.kind = 1) : fixN1 f n y = ⟨0, ⟨#[]⟩, (n : Int), []⟩ := if_pos h
theorem fixN1_not {f n : Nat} {y : Nd} (h : y.kind ≠ 1) : fixN1 f n y = ⟨y.kind, y.name, y.num, y.args.map (fun a => (f : Int) + a)⟩ := if_neg h
theorem fixN1_len {p : Gf} (hp : Good p) {y : Int} (hy : isN p y) (f n : Nat) : (fixN1 f n (p.nd y)).args.length = (p.nd y).args.length := by
  by_cases h : (p.nd y).kind = 1
  · rw [fixN1_var h, good_varA hp hy h]; rfl
  · rw [fixN1_not h]; simp
theorem bothN_rightI (p t : Gf) {y : Int} (hy : isN t y) : ndN (bothN p t) (p.nodes.length + y.toNat) = fixN1 p.nodes.length y.toNat (t.nd y) := by
  have h0 := hy.1
  have h1 := hy.2
  rw [bothN_right p t (show y.toNat < t.nodes.length by omega), show ((y.toNat : Nat) : Int) = y by omega]
theorem bothN_leftI (p t : Gf) {x : Int} (hx : isN p x) : ndN (bothN p t) x.toNat = p.nd x := by
  have h0 := hx.1
  have h1 := hx.2
  rw [bothN_left p t (show x.toNat < p.nodes.length by omega), show ((x.toNat : Nat) : Int) = x by omega]
theorem argN_rightI {p t : Gf} (ht : Good t) {y : Int} (hy : isN t y) {k : Nat} (hk : k < (t.nd y).args.length) : argN (bothN p t) (p.nodes.length + y.toNat) k = p.nodes.length + (t.arg y k).toNat := by
  have hkd : (t.nd y).kind ≠ 1 := fun h => by rw [good_varA ht hy h] at hk; omega
  have ha := (arg_isN ht hy hk).1
  unfold argN
  rw [bothN_rightI p t hy, fixN1_not hkd]
  have : (List.map (fun a => (p.nodes.length : Int) + a) (t.nd y).args).getD k 0 = (p.nodes.length : Int) + t.arg y k := by
    unfold Gf.arg
    simp [List.getD, List.getElem?_eq_getElem hk]
  show ((List.map (fun a => (p.nodes.length : Int) + a) (t.nd y).args).getD k 0).toNat = _
  rw [this]
  omega
theorem argN_leftI {p t : Gf} {x : Int} (hx : isN p x) (k : Nat) : argN (bothN p t) x.toNat k = (p.arg x k).toNat := by
  unfold argN
  rw [bothN_leftI p t hx]
  rfl
theorem bothN_good {p t : Gf} (hp : Good p) (ht : Good t) : GoodA (bothN p t) := by
  have hsp : ∀ x, x < (bothN p t).length → (∃ y : Int, isN p y ∧ x = y.toNat) ∨ ∃ y : Int, isN t y ∧ x = p.nodes.length + y.toNat := fun x hx => by
    rw [bothN_len] at hx
    by_cases h : x < p.nodes.length
    · exact Or.inl ⟨(x : Int), ⟨by omega, by omega⟩, by omega⟩
    · exact Or.inr ⟨((x - p.nodes.length : Nat) : Int), ⟨by omega, by omega⟩, by omega⟩
  have hout : ∀ x, ¬ x < (bothN p t).length → ndN (bothN p t) x = nd0 := fun x hx => by
    unfold ndN
    rw [List.getD, List.getElem?_eq_none (by omega)]
    rfl
  refine ⟨fun x hx k hk => ?_, fun x hk => ?_, fun x => ?_⟩
  · rw [bothN_len]
    rcases hsp x hx with ⟨y, hy, rfl⟩ | ⟨y, hy, rfl⟩
    · rw [argN_leftI hy, bothN_leftI p t hy]
      rw [bothN_leftI p t hy] at hk
      have ha := arg_isN hp hy hk
      have h0 := ha.1
      have h1 := ha.2
      exact ⟨h0, by omega⟩
    · rw [bothN_rightI p t hy, fixN1_len ht hy] at hk
      rw [argN_rightI ht hy hk]
      have ha := arg_isN ht hy hk
      have h0 := ha.1
      have h1 := ha.2
      refine ⟨?_, by omega⟩
      have hkd : (t.nd y).kind ≠ 1 := fun h => by rw [good_varA ht hy h] at hk; omega
      rw [bothN_rightI p t hy, fixN1_not hkd]
      have : (List.map (fun a => (p.nodes.length : Int) + a) (t.nd y).args).getD k 0 = (p.nodes.length : Int) + t.arg y k := by
        unfold Gf.arg
        simp [List.getD, List.getElem?_eq_getElem hk]
      show 0 ≤ (List.map (fun a => (p.nodes.length : Int) + a) (t.nd y).args).getD k 0
      rw [this]
      omega
  · by_cases hx : x < (bothN p t).length
    · rcases hsp x hx with ⟨y, hy, rfl⟩ | ⟨y, hy, rfl⟩
      · rw [bothN_leftI p t hy] at hk ⊢
        exact List.eq_nil_of_length_eq_zero (good_varA hp hy hk)
      · rw [bothN_rightI p t hy] at hk
        exact absurd hk (fixN1_kind _ _ _)
    · rw [hout x hx]
  · by_cases hx : x < (bothN p t).length
    · rcases hsp x hx with ⟨y, hy, rfl⟩ | ⟨y, hy, rfl⟩
      · rw [bothN_leftI p t hy]
        exact (good_args (good_ndI hp hy)).2
      · rw [bothN_rightI p t hy, fixN1_len ht hy]
        exact (good_args (good_ndI ht hy)).2
    · rw [hout x hx]; exact Nat.zero_le _
theorem rtP_mem {p t : Gf} {q : Nat × Nat} : q ∈ rtP p t ↔ ∃ i, i < p.roots.length ∧ q = ((p.roots.getD i 0).toNat, p.nodes.length + (t.roots.getD i 0).toNat) := by
  unfold rtP
  rw [List.mem_map]
  constructor
  · rintro ⟨i, hi, rfl⟩
    exact ⟨i, List.mem_range.1 hi, rfl⟩
  · rintro ⟨i, hi, rfl⟩
    exact ⟨i, List.mem_range.2 hi, rfl⟩
/-- A unifier tells what stands for what. -/
theorem cg_ins {p t : Gf} (hp : Good p) (ht : Good t) (hl : p.roots.length = t.roots.length) {R : Nat → Nat → Prop} (hR : Cg (bothN p t) R) (hr : ∀ q ∈ rtP p t, R q.1 q.2) : Ins p t (fun x y => isN p x ∧ isN t y ∧ R x.toNat (p.nodes.length + y.toNat)) := by
  have hlt : ∀ {x : Int}, isN p x → x.toNat < (bothN p t).length := fun {x} hx => by
    have h0 := hx.1
    have h1 := hx.2
    rw [bothN_len]; omega
  have hrt : ∀ {y : Int}, isN t y → p.nodes.length + y.toNat < (bothN p t).length := fun {y} hy => by
    have h0 := hy.1
    have h1 := hy.2
    rw [bothN_len]; omega
  have hlab : ∀ x y, isN p x → isN t y → R x.toNat (p.nodes.length + y.toNat) → (p.nd x).kind ≠ 1 → (t.nd y).kind ≠ 1 ∧ labS (p.nd x) (t.nd y) ∧ ∀ k, k < (p.nd x).args.length → R (argN (bothN p t) x.toNat k) (argN (bothN p t) (p.nodes.length + y.toNat) k) := fun x y hx hy h hk => by
    obtain ⟨h1, h2⟩ := hR.lab _ _ (hlt hx) (hrt hy) h (by rw [bothN_leftI p t hx]; exact hk) (by rw [bothN_rightI p t hy]; exact fixN1_kind _ _ _)
    rw [bothN_leftI p t hx] at h1 h2
    rw [bothN_rightI p t hy] at h1
    have hty : (t.nd y).kind ≠ 1 := fun e => by
      rw [fixN1_var e] at h1
      exact good_kind0 hp hx h1.1
    rw [fixN1_not hty] at h1
    exact ⟨hty, ⟨h1.1, h1.2.1, h1.2.2.1, by have := h1.2.2.2; simpa using this⟩, h2⟩
  refine ⟨fun x y h => ⟨h.1, h.2.1⟩, fun x y ⟨hx, hy, h⟩ hk => ?_, fun x y ⟨hx, hy, h⟩ hk k hkk => ?_, fun x y y' ⟨hx, hy, h⟩ ⟨_, hy', h'⟩ hk => ?_, hl, fun i hi => ⟨hp.root _ (getD_mem hi), ht.root _ (getD_mem (by rw [← hl]; exact hi)), hr _ (rtP_mem.2 ⟨i, hi, rfl⟩)⟩⟩
  · exact (hlab x y hx hy h hk).2.1
  · obtain ⟨_, hls, ha⟩ := hlab x y hx hy h hk
    have hkt : k < (t.nd y).args.length := by rw [← hls.2.2.2]; exact hkk
    have := ha k hkk
    rw [argN_leftI hx, argN_rightI ht hy hkt] at this
    exact ⟨arg_isN hp hx hkk, arg_isN ht hy hkt, this⟩
  · refine ⟨fun u v => isN t u ∧ isN t v ∧ R (p.nodes.length + u.toNat) (p.nodes.length + v.toNat), fun u v ⟨hu, hv, huv⟩ => ?_, hy, hy', hR.trans _ _ _ (hR.symm _ _ h) h'⟩
    obtain ⟨h1, h2⟩ := hR.lab _ _ (hrt hu) (hrt hv) huv (by rw [bothN_rightI p t hu]; exact fixN1_kind _ _ _) (by rw [bothN_rightI p t hv]; exact fixN1_kind _ _ _)
    rw [bothN_rightI p t hu] at h1 h2
    rw [bothN_rightI p t hv] at h1
    rw [fixN1_len ht hu] at h2
    have hu0 := hu.1
    have hv0 := hv.1
    by_cases eu : (t.nd u).kind = 1
    · by_cases ev : (t.nd v).kind = 1
      · rw [fixN1_var eu, fixN1_var ev] at h1
        have e : u = v := by have := h1.2.2.1; simp at this; omega
        subst e
        exact ⟨hu, hu, labE_refl t u, fun k hk => by rw [good_varA ht hu eu] at hk; omega⟩
      · rw [fixN1_var eu, fixN1_not ev] at h1
        exact absurd h1.1.symm (good_kind0 ht hv)
    · by_cases ev : (t.nd v).kind = 1
      · rw [fixN1_not eu, fixN1_var ev] at h1
        exact absurd h1.1 (good_kind0 ht hu)
      · rw [fixN1_not eu, fixN1_not ev] at h1
        have hlen : (t.nd u).args.length = (t.nd v).args.length := by have := h1.2.2.2; simpa using this
        refine ⟨hu, hv, ⟨h1.1, h1.2.1, h1.2.2.1, hlen, fun e => absurd e eu⟩, fun k hk => ?_⟩
        have := h2 k hk
        rw [argN_rightI ht hu hk, argN_rightI ht hv (by rw [← hlen]; exact hk)] at this
        exact ⟨arg_isN ht hu hk, arg_isN ht hv (by rw [← hlen]; exact hk), this⟩
/-- Which node of t a node of both means. -/
def Mn (p t : Gf) (S : Int → Int → Prop) (u : Nat) (y : Int) : Prop := (∃ x, isN p x ∧ u = x.toNat ∧ S x y) ∨ (isN t y ∧ u = p.nodes.length + y.toNat)
def InR (p t : Gf) (S : Int → Int → Prop) (u v : Nat) : Prop := u = v ∨ ∃ y y', Mn p t S u y ∧ Mn p t S v y' ∧ Al t y y'
theorem mn_al {p t : Gf} (hp : Good p) (ht : Good t) {S : Int → Int → Prop} (h : Ins p t S) {u : Nat} {y y' : Int} (h1 : Mn p t S u y) (h2 : Mn p t S u y') : Al t y y' := by
  rcases h1 with ⟨x, hx, e, hs⟩ | ⟨hy, e⟩ <;> rcases h2 with ⟨x', hx', e', hs'⟩ | ⟨hy', e'⟩
  · have a0 := hx.1
    have a1 := hx'.1
    have : x = x' := by omega
    subst this
    exact h.al (al_refl hp hx) hs hs'
  · have a0 := hx.1
    have a1 := hx.2
    omega
  · have a0 := hx'.1
    have a1 := hx'.2
    omega
  · have a0 := hy.1
    have a1 := hy'.1
    have : y = y' := by omega
    subst this
    exact al_refl ht hy
theorem mn_lab {p t : Gf} (hp : Good p) (ht : Good t) {S : Int → Int → Prop} (h : Ins p t S) {u : Nat} {y : Int} (h1 : Mn p t S u y) (hk : (ndN (bothN p t) u).kind ≠ 1) : isN t y ∧ labS (ndN (bothN p t) u) (fixN1 p.nodes.length y.toNat (t.nd y)) ∧ ∀ k, k < (ndN (bothN p t) u).args.length → Mn p t S (argN (bothN p t) u k) (t.arg y k) := by
  rcases h1 with ⟨x, hx, rfl, hs⟩ | ⟨hy, rfl⟩
  · rw [bothN_leftI p t hx] at hk ⊢
    obtain ⟨l1, l2, l3, l4⟩ := h.lab x y hs hk
    refine ⟨(h.rng x y hs).2, ?_, fun k hkk => Or.inl ⟨_, arg_isN hp hx hkk, argN_leftI hx k, h.arg x y hs hk k hkk⟩⟩
    rw [fixN1_not (by rw [← l1]; exact hk)]
    exact ⟨l1, l2, l3, by simpa using l4⟩
  · rw [bothN_rightI p t hy]
    refine ⟨hy, labS.refl _, fun k hkk => ?_⟩
    rw [fixN1_len ht hy] at hkk
    exact Or.inr ⟨arg_isN ht hy hkk, argN_rightI ht hy hkk⟩
theorem ins_cg {p t : Gf} (hp : Good p) (ht : Good t) {S : Int → Int → Prop} (h : Ins p t S) : Cg (bothN p t) (InR p t S) ∧ ∀ q ∈ rtP p t, InR p t S q.1 q.2 := by
  refine ⟨⟨⟨fun x => Or.inl rfl, fun x y hxy => ?_, fun x y z hxy hyz => ?_⟩, fun u v _ _ huv hku hkv => ?_⟩, fun q hq => ?_⟩
  · rcases hxy with rfl | ⟨y, y', h1, h2, ha⟩
    · exact Or.inl rfl
    · exact Or.inr ⟨y', y, h2, h1, al_symm ha⟩
  · rcases hxy with rfl | ⟨y1, y2, h1, h2, ha⟩
    · exact hyz
    · rcases hyz with rfl | ⟨y3, y4, h3, h4, hb⟩
      · exact Or.inr ⟨y1, y2, h1, h2, ha⟩
      · exact Or.inr ⟨y1, y4, h1, h4, al_trans ha (al_trans (mn_al hp ht h h2 h3) hb)⟩
  · rcases huv with rfl | ⟨y, y', h1, h2, ha⟩
    · exact ⟨labS.refl _, fun k _ => Or.inl rfl⟩
    · obtain ⟨hy, lu, au⟩ := mn_lab hp ht h h1 hku
      obtain ⟨hy', lv, av⟩ := mn_lab hp ht h h2 hkv
      obtain ⟨_, _, hl, hargs⟩ := al_sim t y y' ha
      have hm : labS (fixN1 p.nodes.length y.toNat (t.nd y)) (fixN1 p.nodes.length y'.toNat (t.nd y')) := by
        by_cases hk : (t.nd y).kind = 1
        · have e := hl.2.2.2.2 hk
          subst e
          exact labS.refl _
        · rw [fixN1_not hk, fixN1_not (by rw [← hl.1]; exact hk)]
          exact ⟨hl.1, hl.2.1, hl.2.2.1, by simpa using hl.2.2.2.1⟩
      have hlab := lu.trans (hm.trans lv.symm)
      refine ⟨hlab, fun k hk => Or.inr ⟨_, _, au k hk, av k (by rw [← hlab.2.2.2]; exact hk), hargs k ?_⟩⟩
      rw [← fixN1_len ht hy p.nodes.length y.toNat, ← lu.2.2.2]
      exact hk
  · obtain ⟨i, hi, rfl⟩ := rtP_mem.1 hq
    have hs := h.root i hi
    obtain ⟨r1, r2⟩ := h.rng _ _ hs
    exact Or.inr ⟨_, _, Or.inl ⟨_, r1, rfl, hs⟩, Or.inr ⟨r2, rfl⟩, al_refl ht r2⟩
/-- The second is an instance of the first just if the roots can be made one. -/
theorem ins_iff {p t : Gf} (hp : Good p) (ht : Good t) (hl : p.roots.length = t.roots.length) : ¬ NoSol (bothN p t) (rtP p t) ↔ ∃ S, Ins p t S := by
  constructor
  · intro h
    apply Classical.byContradiction
    intro hn
    exact h (fun R hR hr => hn ⟨_, cg_ins hp ht hl hR hr⟩)
  · rintro ⟨S, h⟩ hn
    exact hn _ (ins_cg hp ht h).1 (ins_cg hp ht h).2
end Go.Proofs.Ytllafbghomohhaa

/- The hanging variables and what unfolds alike: plain data. -/
namespace Go.Proofs.Ytllafbghomohhaa
open Go.RowKit

theorem cnt_zero {E : Nat → Nat} {m : Nat} : ∀ {j : Nat}, (∀ y, y < j → E y ≠ m) → cntN E m j = 0
  | 0, _ => rfl
  | j + 1, h => by
    unfold cntN
    rw [cnt_zero (fun y hy => h y (by omega)), if_neg (h j (by omega))]
theorem cnt_le1 {E : Nat → Nat} {m x : Nat} : ∀ {j : Nat}, (∀ y, y < j → E y = m → y = x) → cntN E m j ≤ 1
  | 0, _ => by simp [cntN]
  | j + 1, h => by
    unfold cntN
    by_cases e : E j = m
    · rw [if_pos e]
      have hx := h j (by omega) e
      have : cntN E m j = 0 := cnt_zero (fun y hy ey => by have := h y (by omega) ey; omega)
      omega
    · rw [if_neg e]
      have := cnt_le1 (x := x) (fun y (hy : y < j) => h y (by omega))
      omega
theorem cnt_ge1 {E : Nat → Nat} {m i : Nat} (he : E i = m) : ∀ {j : Nat}, i < j → 1 ≤ cntN E m j
  | 0, h => absurd h (Nat.not_lt_zero _)
  | j + 1, h => by
    unfold cntN
    by_cases e : i = j
    · subst e
      rw [if_pos he]; omega
    · have := cnt_ge1 he (j := j) (by omega)
      omega
theorem cnt_ge2 {E : Nat → Nat} {m i k : Nat} (hi : E i = m) (hk : E k = m) (hik : i < k) : ∀ {j : Nat}, k < j → 2 ≤ cntN E m j
  | 0, h => absurd h (Nat.not_lt_zero _)
  | j + 1, h => by
    unfold cntN
    by_cases e : k = j
    · subst e
      have := cnt_ge1 hi hik
      rw [if_pos hk]; omega
    · have := cnt_ge2 hi hk hik (j := j) (by omega)
      omega
theorem hangF_mem {ns : List Nd} {E : Nat → Nat} {v : Nat} : ∀ {j : Nat}, v ∈ hangF ns E j ↔ v < j ∧ (ndN ns v).kind = 1 ∧ 1 < cntN E (E v) ns.length
  | 0 => by simp [hangF]
  | j + 1 => by
    unfold hangF
    rw [List.mem_append, hangF_mem (j := j)]
    constructor
    · rintro (⟨h1, h2⟩ | h)
      · exact ⟨by omega, h2⟩
      · split at h
        · rename_i hc
          have : v = j := by simpa using h
          subst this
          exact ⟨by omega, hc⟩
        · simp at h
    · rintro ⟨h1, h2⟩
      by_cases e : v = j
      · subst e
        rw [if_pos h2]
        exact Or.inr (by simp)
      · exact Or.inl ⟨by omega, h2⟩
theorem hangF_nil {ns : List Nd} {E : Nat → Nat} : hangF ns E ns.length = [] ↔ ∀ v, v < ns.length → (ndN ns v).kind = 1 → ∀ y, y < ns.length → E y = E v → y = v := by
  constructor
  · intro h v hv hk y hy he
    apply Classical.byContradiction
    intro hne
    have h2 : 2 ≤ cntN E (E v) ns.length := by
      rcases Nat.lt_or_gt_of_ne hne with hl | hl
      · exact cnt_ge2 he rfl hl hv
      · exact cnt_ge2 rfl he hl hy
    have : v ∈ hangF ns E ns.length := hangF_mem.2 ⟨hv, hk, by omega⟩
    rw [h] at this
    simp at this
  · intro h
    apply List.eq_nil_iff_forall_not_mem.2
    intro v hv
    obtain ⟨h1, h2, h3⟩ := hangF_mem.1 hv
    have := cnt_le1 (E := E) (m := E v) (x := v) (j := ns.length) (fun y hy he => h v h1 h2 y hy he)
    omega
/-- What unfolds alike is a unifier of nothing. -/
theorem al_cg {g : Gf} (hg : Good g) : Cg g.nodes (fun x y => x = y ∨ (x < g.nodes.length ∧ y < g.nodes.length ∧ Al g (x : Int) (y : Int))) := by
  refine ⟨⟨fun _ => Or.inl rfl, fun x y h => ?_, fun x y z h k => ?_⟩, fun x y hx hy h hkx _ => ?_⟩
  · rcases h with rfl | ⟨h1, h2, h3⟩
    · exact Or.inl rfl
    · exact Or.inr ⟨h2, h1, al_symm h3⟩
  · rcases h with rfl | ⟨h1, h2, h3⟩
    · exact k
    · rcases k with rfl | ⟨_, k2, k3⟩
      · exact Or.inr ⟨h1, h2, h3⟩
      · exact Or.inr ⟨h1, k2, al_trans h3 k3⟩
  · rcases h with rfl | ⟨_, _, h3⟩
    · exact ⟨labS.refl _, fun _ _ => Or.inl rfl⟩
    · obtain ⟨i1, i2, l, ar⟩ := al_sim g _ _ h3
      unfold labE at l
      rw [nd_int, nd_int] at l
      refine ⟨⟨l.1, l.2.1, l.2.2.1, l.2.2.2.1⟩, fun k hk => Or.inr ?_⟩
      have hA := goodA_of hg
      have a1 := hA.arg x hx k hk
      have a2 := hA.arg y hy k (by rw [← l.2.2.2.1]; exact hk)
      have e1 : g.arg (x : Int) k = ((argN g.nodes x k : Nat) : Int) := by
        unfold Gf.arg argN
        rw [nd_int]
        omega
      have e2 : g.arg (y : Int) k = ((argN g.nodes y k : Nat) : Int) := by
        unfold Gf.arg argN
        rw [nd_int]
        omega
      have := ar k (by rw [nd_int]; exact hk)
      rw [e1, e2] at this
      exact ⟨a1.2, a2.2, this⟩
/-- No variable hangs just if all pairs unfold alike without a solution. -/
theorem hang_iff {g : Gf} (hg : Good g) {P : List (Nat × Nat)} {E : Nat → Nat} (hU : Un g.nodes P E []) (hP : ∀ p ∈ P, p.1 < g.nodes.length ∧ p.2 < g.nodes.length) : hangF g.nodes E g.nodes.length = [] ↔ ∀ p ∈ P, Al g (p.1 : Int) (p.2 : Int) := by
  obtain ⟨hc, hp, hmin⟩ := hU.done
  rw [hangF_nil]
  constructor
  · intro h p hpm
    refine ⟨fun a b => isN g a ∧ isN g b ∧ E a.toNat = E b.toNat, fun a b ⟨ha, hb, he⟩ => ?_, ⟨by omega, by have := (hP p hpm).1; omega⟩, ⟨by omega, by have := (hP p hpm).2; omega⟩, by simpa using hp p hpm⟩
    have ha0 := ha.1
    have ha1 := ha.2
    have hb0 := hb.1
    have hb1 := hb.2
    have ea : ((a.toNat : Nat) : Int) = a := by omega
    have eb : ((b.toNat : Nat) : Int) = b := by omega
    have na : ndN g.nodes a.toNat = g.nd a := by rw [← nd_int, ea]
    have nb : ndN g.nodes b.toNat = g.nd b := by rw [← nd_int, eb]
    by_cases ka : (g.nd a).kind = 1
    · have := h a.toNat (by omega) (by rw [na]; exact ka) b.toNat (by omega) he.symm
      have e : a = b := by omega
      subst e
      exact ⟨ha, ha, labE_refl g a, fun k hk => by rw [good_varA hg ha ka] at hk; omega⟩
    · by_cases kb : (g.nd b).kind = 1
      · have := h b.toNat (by omega) (by rw [nb]; exact kb) a.toNat (by omega) he
        have e : a = b := by omega
        subst e
        exact absurd kb ka
      · obtain ⟨l, ar⟩ := hc.lab a.toNat b.toNat (by omega) (by omega) he (by rw [na]; exact ka) (by rw [nb]; exact kb)
        rw [na] at l ar
        rw [nb] at l
        refine ⟨ha, hb, ⟨l.1, l.2.1, l.2.2.1, l.2.2.2, fun e => absurd e ka⟩, fun k hk => ⟨arg_isN hg ha hk, arg_isN hg hb (by rw [← l.2.2.2]; exact hk), ?_⟩⟩
        have := ar k hk
        unfold argN at this
        rw [na, nb] at this
        exact this
  · intro h v hv hk y hy he
    have hr := hmin _ (al_cg hg) (fun p hpm => Or.inr ⟨(hP p hpm).1, (hP p hpm).2, h p hpm⟩) y v he
    rcases hr with rfl | ⟨_, _, h3⟩
    · rfl
    · have h4 := al_symm h3
      have h5 := (al_sim g _ _ h4).2.2.1.2.2.2.2 (by rw [nd_int]; exact hk)
      omega
end Go.Proofs.Ytllafbghomohhaa
