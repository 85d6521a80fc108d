/- Of each node of a least graph one that is of its class. -/
import Derived.Test.Ytncileojdighnaaow41Z
namespace Go.Proofs.Ytncileojdighnaa
set_option maxRecDepth 100000
open Go.RowKit
theorem map_getD0 {l : List Int} {F : Int → Int} {k : Nat} (h : k < l.length) : (l.map F).getD k 0 = F (l.getD k 0) := by simp [List.getD, h]
def Born (g : Gf) (m : List Int) : Prop := ∀ i, i < m.length → m.getD i 0 ∈ g.roots ∨ ∃ j, j < i ∧ m.getD i 0 ∈ g.argsOf (m.getD j 0)
theorem Born.snoc {g : Gf} {m : List Int} {n : Int} (h : Born g m) (hn : n ∈ g.roots ∨ ∃ y ∈ m, n ∈ g.argsOf y) : Born g (m ++ [n]) := fun i hi => by
  have e : ∀ k, k < m.length → (m ++ [n]).getD k 0 = m.getD k 0 := fun k hk => by simp [List.getD, List.getElem?_append_left hk]
  by_cases hlt : i < m.length
  · rw [e i hlt]
    rcases h i hlt with h1 | ⟨j, hj, h1⟩
    · exact Or.inl h1
    · exact Or.inr ⟨j, hj, by rw [e j (by omega)]; exact h1⟩
  · have ei : i = m.length := by simp at hi; omega
    subst ei
    have e2 : (m ++ [n]).getD m.length 0 = n := by simp [List.getD]
    rw [e2]
    rcases hn with h1 | ⟨y, hy, h1⟩
    · exact Or.inl h1
    · obtain ⟨j, hj, rfl⟩ := list_mem_getD hy
      exact Or.inr ⟨j, hj, by rw [e j hj]; exact h1⟩
theorem meet_born (g : Gf) : ∀ (f : Nat) (l m : List Int), (∀ x ∈ l, x ∈ g.roots ∨ ∃ y ∈ m, x ∈ g.argsOf y) → Born g m → Born g (meetF g f l m) ∧ ∀ x ∈ m, x ∈ meetF g f l m
  | 0, l, m, _, h => ⟨h, fun _ hx => hx⟩
  | f + 1, l, m, hl, h => by
    rw [meetF_succ]
    induction l generalizing m with
    | nil => exact ⟨h, fun _ hx => hx⟩
    | cons n r ih =>
      rw [List.foldl_cons]
      have hs : Born g (stepF g f m n) ∧ ∀ x ∈ m, x ∈ stepF g f m n := by
        unfold stepF
        split
        · exact ⟨h, fun _ hx => hx⟩
        · have h1 := meet_born g f (g.argsOf n) (m ++ [n]) (fun x hx => Or.inr ⟨n, by simp, hx⟩) (h.snoc (hl n (by simp)))
          exact ⟨h1.1, fun x hx => h1.2 x (by simp [hx])⟩
      have h2 := ih (stepF g f m n) (fun x hx => by
        rcases hl x (by simp [hx]) with h3 | ⟨y, hy, h3⟩
        · exact Or.inl h3
        · exact Or.inr ⟨y, hs.2 y hy, h3⟩) hs.1
      exact ⟨h2.1, fun x hx => h2.2 x (hs.2 x hx)⟩
theorem met_born (g : Gf) : Born g (metF g) := (meet_born g _ _ _ (fun x hx => Or.inl hx) (fun i hi => by simp at hi)).1
def Lke (e : Nat → Nat → Bool) (g : Gf) (x : Nat) (i : Nat) : Prop := isN g (x : Int) ∧ clsI e g.nodes.length (x : Int) = (metF (quoF e g)).getD i 0
section
variable {e : Nat → Nat → Bool} {g : Gf}
theorem posF_getD {m : List Int} (h : m.Nodup) {i : Nat} (hi : i < m.length) : posF m (m.getD i 0) = (i : Int) := by
  unfold posF
  rw [if_pos (by simp [List.getD, hi]), pos_of_getD h hi]
theorem getD_posF {m : List Int} {x : Int} (h : x ∈ m) : m.getD (posF m x).toNat 0 = x ∧ (posF m x).toNat < m.length ∧ 0 ≤ posF m x := by
  unfold posF
  rw [if_pos h]
  refine ⟨?_, by simpa using pos_lt h, by omega⟩
  simp only [Int.toNat_natCast]
  induction m with
  | nil => cases h
  | cons y r ih =>
    by_cases e : y = x
    · simp [pos, e]
    · have h' : x ∈ r := by
        rcases List.mem_cons.1 h with h | h
        · exact absurd h.symm e
        · exact h
      simp only [pos, if_neg e, List.getD_cons_succ]
      exact ih h'
theorem lke_root (hg : Good g) (hd : ∀ x y : Nat, (e x y = true ↔ Al g (x : Int) (y : Int))) {k : Nat} (hk : k < g.roots.length) : Lke e g (g.roots.getD k 0).toNat ((trimF (quoF e g)).roots.getD k 0).toNat ∧ 0 ≤ (trimF (quoF e g)).roots.getD k 0 ∧ ((trimF (quoF e g)).roots.getD k 0).toNat < (metF (quoF e g)).length := by
  have hm := met_root (quo_good hg (al_eqv hg hd)) (clsI e g.nodes.length (g.roots.getD k 0)) (List.mem_map.2 ⟨_, getD_mem hk, rfl⟩)
  have hr : (trimF (quoF e g)).roots.getD k 0 = posF (metF (quoF e g)) (clsI e g.nodes.length (g.roots.getD k 0)) := by
    simp [trimF, quoF, List.getD, hk]
  have hx := hg.root _ (getD_mem hk)
  obtain ⟨h1, h2, h3⟩ := getD_posF hm
  rw [hr]
  refine ⟨⟨by rw [show (((g.roots.getD k 0).toNat : Nat) : Int) = g.roots.getD k 0 by omega]; exact hx, ?_⟩, h3, h2⟩
  rw [show (((g.roots.getD k 0).toNat : Nat) : Int) = g.roots.getD k 0 by omega, h1]
theorem lke_nd (hg : Good g) (hd : ∀ x y : Nat, (e x y = true ↔ Al g (x : Int) (y : Int))) {x i : Nat} (hi : i < (metF (quoF e g)).length) (h : Lke e g x i) : (trimF (quoF e g)).nodes.getD i nd0 = renum (fun y => posF (metF (quoF e g)) (clsI e g.nodes.length y)) (g.nodes.getD x nd0) := by
  have hq := quo_good hg (al_eqv hg hd)
  have hmem : (metF (quoF e g)).getD i 0 ∈ metF (quoF e g) := getD_mem hi
  have h1 := trim_node hq _ hmem
  rw [posF_getD (met_ok hq).nodup hi, Int.toNat_natCast] at h1
  have h2 := quo_nd hg hd h.1
  rw [h.2] at h2
  unfold Gf.nd at h2
  rw [Int.toNat_natCast] at h2
  rw [h1, h2]
  unfold renum
  simp only [List.map_map]
  rfl
theorem lke_arg (hg : Good g) (hd : ∀ x y : Nat, (e x y = true ↔ Al g (x : Int) (y : Int))) {x i : Nat} (hi : i < (metF (quoF e g)).length) (h : Lke e g x i) {k : Nat} (hk : k < (g.nodes.getD x nd0).args.length) : Lke e g ((g.nodes.getD x nd0).args.getD k 0).toNat (((trimF (quoF e g)).nodes.getD i nd0).args.getD k 0).toNat ∧ 0 ≤ (g.nodes.getD x nd0).args.getD k 0 ∧ 0 ≤ ((trimF (quoF e g)).nodes.getD i nd0).args.getD k 0 ∧ (((trimF (quoF e g)).nodes.getD i nd0).args.getD k 0).toNat < (metF (quoF e g)).length := by
  have hq := quo_good hg (al_eqv hg hd)
  have hmem : (metF (quoF e g)).getD i 0 ∈ metF (quoF e g) := getD_mem hi
  have hnd := lke_nd hg hd hi h
  have hargs : (quoF e g).argsOf ((metF (quoF e g)).getD i 0) = (g.nodes.getD x nd0).args.map (clsI e g.nodes.length) := by
    have h2 := quo_nd hg hd h.1
    rw [h.2] at h2
    show ((quoF e g).nd _).args = _
    rw [h2]
    unfold renum Gf.nd
    rw [Int.toNat_natCast]
  have hy := met_arg hq _ hmem (clsI e g.nodes.length ((g.nodes.getD x nd0).args.getD k 0)) (by rw [hargs]; exact List.mem_map.2 ⟨_, getD_mem hk, rfl⟩)
  have hrng := (hg.args h.1.1 h.1.2).1 ((g.nodes.getD x nd0).args.getD k 0) (by unfold Gf.argsOf; rw [Int.toNat_natCast]; exact getD_mem hk)
  have ht : ((trimF (quoF e g)).nodes.getD i nd0).args.getD k 0 = posF (metF (quoF e g)) (clsI e g.nodes.length ((g.nodes.getD x nd0).args.getD k 0)) := by
    rw [hnd]
    exact map_getD0 hk
  obtain ⟨h1, h2, h3⟩ := getD_posF hy
  rw [ht]
  refine ⟨⟨?_, ?_⟩, hrng.1, h3, h2⟩
  · rw [show ((((g.nodes.getD x nd0).args.getD k 0).toNat : Nat) : Int) = (g.nodes.getD x nd0).args.getD k 0 by omega]
    exact ⟨hrng.1, hrng.2⟩
  · rw [show ((((g.nodes.getD x nd0).args.getD k 0).toNat : Nat) : Int) = (g.nodes.getD x nd0).args.getD k 0 by omega, h1]
def Seen (e : Nat → Nat → Bool) (g : Gf) (n c : Nat) (i : Nat) : Prop := (∃ k, k < g.roots.length ∧ ((trimF (quoF e g)).roots.getD k 0).toNat = i) ∨ (∃ j k, j < n ∧ k < ((trimF (quoF e g)).nodes.getD j nd0).args.length ∧ (((trimF (quoF e g)).nodes.getD j nd0).args.getD k 0).toNat = i) ∨ (∃ k, k < c ∧ (((trimF (quoF e g)).nodes.getD n nd0).args.getD k 0).toNat = i)
theorem seen_self (hg : Good g) (hd : ∀ x y : Nat, (e x y = true ↔ Al g (x : Int) (y : Int))) {n : Nat} (hn : n < (metF (quoF e g)).length) : Seen e g n 0 n := by
  have hq := quo_good hg (al_eqv hg hd)
  have hnd := (met_ok hq).nodup
  rcases met_born (quoF e g) n hn with h | ⟨j, hj, h⟩
  · obtain ⟨k, hk, ek⟩ := list_mem_getD h
    refine Or.inl ⟨k, by simpa [quoF] using hk, ?_⟩
    have e1 : (trimF (quoF e g)).roots.getD k 0 = posF (metF (quoF e g)) ((quoF e g).roots.getD k 0) := by simp [trimF, List.getD, hk]
    rw [e1, ek, posF_getD hnd hn, Int.toNat_natCast]
  · have hj' : j < (metF (quoF e g)).length := by omega
    have h1 := trim_args hq _ (getD_mem hj')
    rw [posF_getD hnd hj'] at h1
    unfold Gf.argsOf at h1
    rw [Int.toNat_natCast] at h1
    obtain ⟨k, hk, ek⟩ := list_mem_getD h
    have hk' : k < ((quoF e g).nodes.getD ((metF (quoF e g)).getD j 0).toNat nd0).args.length := hk
    have ek' : ((quoF e g).nodes.getD ((metF (quoF e g)).getD j 0).toNat nd0).args.getD k 0 = (metF (quoF e g)).getD n 0 := ek
    refine Or.inr (Or.inl ⟨j, k, hj, by rw [h1]; simpa using hk', ?_⟩)
    rw [h1]
    have e2 : (((quoF e g).nodes.getD ((metF (quoF e g)).getD j 0).toNat nd0).args.map (posF (metF (quoF e g)))).getD k 0 = posF (metF (quoF e g)) (((quoF e g).nodes.getD ((metF (quoF e g)).getD j 0).toNat nd0).args.getD k 0) := map_getD0 hk'
    rw [e2, ek', posF_getD hnd hn, Int.toNat_natCast]
theorem seen_next {n i : Nat} (h : Seen e g (n + 1) 0 i) : Seen e g n ((trimF (quoF e g)).nodes.getD n nd0).args.length i := by
  rcases h with h | ⟨j, k, hj, hk, h⟩ | ⟨k, hk, _⟩
  · exact Or.inl h
  · by_cases e : j = n
    · subst e
      exact Or.inr (Or.inr ⟨k, hk, h⟩)
    · exact Or.inr (Or.inl ⟨j, k, by omega, hk, h⟩)
  · omega
end
end Go.Proofs.Ytncileojdighnaa

namespace Go.Proofs.Ytncileojdighnaa
set_option maxRecDepth 100000
open Go.RowKit Go.Maps
def MapP (D : DataW Unit) (m : List Int) (n : Nat) : Prop := Maps.IsMap D ∧ (∀ x : Int, Maps.has D (.int .i64 x) = decide (x ∈ m.take n)) ∧ ∀ x : Int, x ∈ m.take n → D.atKey (.int .i64 x) (.lit (.int .i64 0)) = .lit (.int .i64 (posF m x))
theorem MapP.nil (m : List Int) : MapP (.map []) m 0 := ⟨⟨[], rfl⟩, fun x => by simp [Maps.has], fun x h => by simp at h⟩
theorem MapP.put {D : DataW Unit} {m : List Int} {n : Nat} (h : MapP D m n) (hn : n < m.length) (hd : m.Nodup) (hD : Maps.IsMap (D.put (.int .i64 (m.getD n 0)) (.lit (.int .i64 (n : Int))))) : MapP (D.put (.int .i64 (m.getD n 0)) (.lit (.int .i64 (n : Int)))) m (n + 1) := by
  have ht : ∀ x, x ∈ m.take (n + 1) ↔ x ∈ m.take n ∨ x = m.getD n 0 := fun x => by
    rw [List.take_add_one, List.mem_append]
    simp [List.getD, hn]
  have hk : WideAt.IsKeyLit (.int .i64 (m.getD n 0)) := trivial
  refine ⟨hD, fun x => ?_, fun x hx => ?_⟩
  · by_cases e : x = m.getD n 0
    · subst e
      rw [Maps.has_put_same h.1 hk, decide_eq_true ((ht _).2 (Or.inr rfl))]
    · have hne : Lit.int .i64 x ≠ Lit.int .i64 (m.getD n 0) := fun h2 => e (by injection h2)
      rw [Maps.has_put_other hne, h.2.1, decide_eq_decide, ht]
      exact ⟨Or.inl, fun h2 => h2.elim id (fun h3 => absurd h3 e)⟩
  · by_cases e : x = m.getD n 0
    · subst e
      rw [Maps.atKey_put_same h.1 hk, posF_getD hd hn]
    · have hne : Lit.int .i64 x ≠ Lit.int .i64 (m.getD n 0) := fun h2 => e (by injection h2)
      rw [Maps.atKey_put_other hne]
      exact h.2.2 x (((ht x).1 hx).elim id (fun h3 => absurd h3 e))
structure Pk (W w : World) (nv rv mv sv : Value) (N : Nat) (lk : List Nat) : Prop where
  b : Below W.heap.size W w
  gb : w.heap[W.heap.size]? = some (.cells #[nv, rv] 29)
  lb : w.heap[W.heap.size + 1]? = some (.cells #[mv, sv] 29)
  row : w.ownsRow W.heap.size 3 1 (.slice (some ⟨W.heap.size + 2, 0, none⟩) N N) N ((ints lk).map (Value.int .i64))
  len : lk.length = N
section
variable {W w w' : World} {nv rv mv sv : Value} {N : Nat} {lk : List Nat}
theorem Pk.next (h : Pk W w nv rv mv sv N lk) (hb : Below w.heap.size w w') : Pk W w' nv rv mv sv N lk :=
  ⟨Below.next h.b hb, (hb.block _ (lt_of_block h.gb)).trans h.gb, (hb.block _ (lt_of_block h.lb)).trans h.lb, row_keep h.row (fun k hk => hb.block k (h.row.lt k hk).2), h.len⟩
theorem Pk.far (h : Pk W w nv rv mv sv N lk) {q : Nat} (hq : W.heap.size + 2 < q) (hg : w.grownBy w' (some q)) : Pk W w' nv rv mv sv N lk :=
  ⟨h.b.grown hg h.b.size (fun k e => by cases e; omega), (hg.block _ (lt_of_block h.gb) (fun e => by injection e with e; omega)).trans h.gb, (hg.block _ (lt_of_block h.lb) (fun e => by injection e with e; omega)).trans h.lb, row_keep h.row (fun k hk => hg.block k (h.row.lt k hk).2 (fun e => by
    have e1 : W.heap.size + 2 = k := by simpa [Value.ownBlock] using hk
    injection e with e
    omega)), h.len⟩
theorem Pk.cells (h : Pk W w nv rv mv sv N lk) : (w.cell? ⟨W.heap.size, 0, none⟩ = some nv ∧ w.cell? ⟨W.heap.size, 1, none⟩ = some rv ∧ W.heap.size < w.heap.size) ∧ w.cell? ⟨W.heap.size + 1, 0, none⟩ = some mv ∧ w.cell? ⟨W.heap.size + 1, 1, none⟩ = some sv ∧ W.heap.size + 1 < w.heap.size := by
  have h1 := h.gb
  have h2 := h.lb
  exact ⟨⟨by simp [World.cell?, h1], by simp [World.cell?, h1], lt_of_block h1⟩, by simp [World.cell?, h2], by simp [World.cell?, h2], lt_of_block h2⟩
theorem Pk.at (h : Pk W w nv rv mv sv N lk) {i : Nat} (hi : i < N) : w.cell? ⟨W.heap.size + 2, i, none⟩ = some (.int .i64 ((lk.getD i 0 : Nat) : Int)) ∧ w.frozen? ⟨W.heap.size + 2, i, none⟩ = false ∧ W.heap.size + 2 < w.heap.size :=
  ⟨by rw [h.row.cellAt i (by omega)]; exact ints_at (by rw [h.len]; exact hi), h.row.frozenAt i, (h.row.lt _ rfl).2⟩
theorem Pk.set (h : Pk W w nv rv mv sv N lk) (i x : Nat) : Pk W (w.setCell ⟨W.heap.size + 2, i, none⟩ (.int .i64 (x : Int))) nv rv mv sv N (lk.set i x) := by
  refine ⟨h.b.setCell (p := ⟨W.heap.size + 2, i, none⟩) (by show W.heap.size ≤ W.heap.size + 2; omega) _, ?_, ?_, ?_, by simp [h.len]⟩
  · rw [Below.heap_setCell _ _ _ _ (by show W.heap.size ≠ W.heap.size + 2; omega)]; exact h.gb
  · rw [Below.heap_setCell _ _ _ _ (by show W.heap.size + 1 ≠ W.heap.size + 2; omega)]; exact h.lb
  · have h2 := (World.ownsRow.stored h.row i (.int .i64 (x : Int))).1
    rw [ints_set] at h2
    exact h2
theorem Pk.setD (h : Pk W w nv rv mv sv N lk) (i x : Nat) : Pk W (w.drew.setCell ⟨W.heap.size + 2, i, none⟩ (.int .i64 (x : Int))) nv rv mv sv N (lk.set i x) := (h.next (Below.refl _ w).drew).set i x
end
end Go.Proofs.Ytncileojdighnaa
