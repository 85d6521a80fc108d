/- A graph that is built; the ends of nodes. -/
import Derived.Test.YtllafbghomohhaaOCZ
import Derived.Deep.AppendLies
import Derived.Deep.RegionHeld3
import Derived.StillTailTactics
namespace Go.Proofs.Ytllafbghomohhaa
open Go.RowKit

/-- The end of a node, as a number of the model's. -/
def EI (E : Nat → Nat) (x : Int) : Int := ((E x.toNat : Nat) : Int)
theorem Ri.mo {w w' : World} {v : Value} {l : List Int} {S : Nat → Prop} (h : Ri w v l) (hm : Mo S w w') (hne : ∀ b, l ≠ [] → v.ownBlock = some b → ¬ S b) (h0 : ∀ b o n c, v = .slice (some ⟨b, o, none⟩) n c → o = 0) : Ri w' v l := by
  obtain ⟨ao, c, rfl, hc⟩ := h
  refine ⟨ao, c, rfl, fun j hj => ?_⟩
  obtain ⟨b, o, rfl, hx⟩ := hc j hj
  have ho := h0 b o _ _ rfl
  subst ho
  refine ⟨b, 0, rfl, ?_⟩
  rw [World.cell?_of_block (w := w) (a := ⟨b, 0 + j, none⟩) (hm.block b (lt_of_cell hx) (hne b (fun e => by rw [e] at hj; simp at hj) rfl))]
  exact hx
theorem ints_at {L : List Nat} {n : Nat} (h : n < L.length) : ((ints L).map (Value.int .i64))[n]? = some (.int .i64 ((L.getD n 0 : Nat) : Int)) := by
  simp [ints, List.getD, h]
theorem ints_set {L : List Nat} {n v : Nat} : ((ints L).map (Value.int .i64)).set n (.int .i64 (v : Int)) = (ints (L.set n v)).map (Value.int .i64) := by
  simp [ints, List.map_set]
/-- A rank that each step lessens. -/
def Lr (L : List Nat) (r : Nat → Nat) : Prop := ∀ n, n < L.length → L.getD n 0 ≠ n → r (L.getD n 0) < r n
theorem Lr.half {L : List Nat} {E r : Nat → Nat} (h : Ld L E) (hr : Lr L r) {n : Nat} (hn : n < L.length) : Lr (L.set n (L.getD (L.getD n 0) 0)) r := fun i hi hne => by
  have h1 := h.rng n hn
  rw [List.length_set] at hi
  rw [getD_setN hn] at hne ⊢
  split
  · rename_i e
    subst e
    rw [if_pos rfl] at hne
    have e1 : L.getD i 0 ≠ i := fun e => hne (by rw [e, e])
    have a1 := hr i hn e1
    by_cases e2 : L.getD (L.getD i 0) 0 = L.getD i 0
    · rw [e2]; exact a1
    · have a2 := hr _ h1 e2
      omega
  · rename_i e
    rw [if_neg e] at hne
    exact hr i hi hne
/-- A graph that is being built in rows of its own. -/
structure Gp (S : Nat) (w : World) (gb : Nat) (gv rv : Value) (avs : List Value) (nds : List Nd) (rts : List Int) : Prop where
  lo : S ≤ gb
  box : w.heap[gb]? = some (.cells #[gv, rv] 25)
  n : w.ownsRow S 56 4 gv nds.length (ncells nds avs)
  len : avs.length = nds.length
  a : ∀ j, j < nds.length → ∃ ao c, avs.getD j undef = .slice ao (nds.getD j nd0).args.length c ∧ w.ownsRow S 3 1 (.slice ao (nds.getD j nd0).args.length c) (nds.getD j nd0).args.length ((nds.getD j nd0).args.map (Value.int .i64))
  r : w.ownsRow S 3 1 rv rts.length (rts.map (Value.int .i64))
section
variable {S : Nat} {w w' : World} {gb : Nat} {gv rv : Value} {avs : List Value} {nds : List Nd} {rts : List Int}
theorem Gp.keep (h : Gp S w gb gv rv avs nds rts) (hm : ∀ k, S ≤ k → k < w.heap.size → w'.heap[k]? = w.heap[k]?) : Gp S w' gb gv rv avs nds rts := by
  have kr : ∀ {e : TypeId} {z : Nat} {v : Value} {n : Nat} {xs : List Value}, w.ownsRow S e z v n xs → w'.ownsRow S e z v n xs := fun ho => row_keep ho (fun k hk => hm k (ho.lt k hk).1 (ho.lt k hk).2)
  refine ⟨h.lo, (hm gb h.lo (lt_of_block h.box)).trans h.box, kr h.n, h.len, fun j hj => ?_, kr h.r⟩
  obtain ⟨ao, c, e, ho⟩ := h.a j hj
  exact ⟨ao, c, e, kr ho⟩
theorem Gp.gr (h : Gp S w gb gv rv avs nds rts) : Gr w gv rv ⟨nds, rts⟩ := by
  obtain ⟨ra, rc, rfl⟩ := own_sl h.r
  refine ⟨?_, Ri.ofOwn h.r⟩
  obtain ⟨na, nc, rfl⟩ := own_sl h.n
  refine ⟨na, nc, rfl, fun j hj => ?_⟩
  obtain ⟨ao, c, e, ho⟩ := h.a j hj
  rcases h.n.2 with ⟨_, h0⟩ | ⟨g, cap, cur, e1, _⟩
  · have hj' : j < nds.length := hj
    omega
  · have e2 : na = some ⟨g, 0, none⟩ := by injection e1
    subst e2
    obtain ⟨c0, c1, c2, c3⟩ := ncells_at nds avs j h.len hj
    have hj' : j < nds.length := hj
    have k0 := h.n.cellAt (j * 4) (by omega)
    have k1 := h.n.cellAt (j * 4 + 1) (by omega)
    have k2 := h.n.cellAt (j * 4 + 2) (by omega)
    have k3 := h.n.cellAt (j * 4 + 3) (by omega)
    rw [c0] at k0
    rw [c1] at k1
    rw [c2] at k2
    rw [c3, e] at k3
    exact ⟨g, 0, _, rfl, by rw [Nat.zero_add]; exact k0, by rw [Nat.zero_add]; exact k1, by rw [Nat.zero_add]; exact k2, by rw [Nat.zero_add]; exact k3, Ri.ofOwn ho⟩
/-- One node more. -/
theorem Gp.push {w2 : World} {o : Obj} {g cap : Nat} {nd : Nd} {ao : Option Addr} {ac : Nat} (h : Gp S w gb gv rv avs nds rts) (ha : w.ownsRow S 3 1 (.slice ao nd.args.length ac) nd.args.length (nd.args.map (Value.int .i64)))
    (hown : w2.ownsRow S 56 4 (.slice (some ⟨g, 0, none⟩) (nds.length + 1) cap) (nds.length + 1) (ncells nds avs ++ [.int .i64 nd.kind, .string nd.name, .int .i64 nd.num, .slice ao nd.args.length ac])) (hg : (w.alloc o).grownBy w2 gv.ownBlock) :
    Gp S (w2.setCell ⟨gb, 0, none⟩ (.slice (some ⟨g, 0, none⟩) (nds.length + 1) cap)) gb (.slice (some ⟨g, 0, none⟩) (nds.length + 1) cap) rv (avs ++ [.slice ao nd.args.length ac]) (nds ++ [nd]) rts := by
  have hs := hg.size
  simp at hs
  have hzb := lt_of_block h.box
  have hgn : ∀ k, gv.ownBlock = some k → k ≠ gb := fun k hk => by
    obtain ⟨cur, hc⟩ := row_obj h.n hk
    exact obj_ne hc h.box (by decide)
  have b2 : w2.heap[gb]? = some (.cells #[gv, rv] 25) := by
    rw [hg.block gb (by simp; omega) (fun e => hgn gb e.symm rfl), Below.heap_alloc _ _ _ hzb]
    exact h.box
  have hgb : g ≠ gb := by
    obtain ⟨cur, hc⟩ := row_obj hown (k := g) rfl
    exact obj_ne hc b2 (by decide)
  have ki : ∀ {v : Value} {n : Nat} {xs : List Value}, w.ownsRow S 3 1 v n xs → (w2.setCell ⟨gb, 0, none⟩ (.slice (some ⟨g, 0, none⟩) (nds.length + 1) cap)).ownsRow S 3 1 v n xs := fun ho => row_keep ho (fun k hk => by
    obtain ⟨cur, hc⟩ := row_obj ho hk
    have hlt := (ho.lt k hk).2
    rw [Below.heap_setCell _ _ _ _ (obj_ne hc h.box (by decide)), hg.block k (by simp; omega) (fun e => by
      obtain ⟨cur2, hc2⟩ := row_obj h.n e.symm
      exact absurd rfl (obj_ne hc hc2 (by decide))), Below.heap_alloc _ _ _ hlt])
  refine ⟨h.lo, blk2_set0 b2, ?_, by simp [h.len], fun j hj => ?_, ki h.r⟩
  · rw [ncells_snoc nds avs nd _ h.len, List.length_append]
    refine row_keep (w := w2) hown (fun k hk => ?_)
    have e : g = k := by simpa [Value.ownBlock] using hk
    subst e
    exact Below.heap_setCell _ _ _ _ hgb
  · by_cases hj' : j < nds.length
    · obtain ⟨ao', c', e, ho⟩ := h.a j hj'
      have e1 : (nds ++ [nd]).getD j nd0 = nds.getD j nd0 := by simp [List.getD, List.getElem?_append_left hj']
      have e2 : (avs ++ [Value.slice ao nd.args.length ac]).getD j undef = avs.getD j undef := by simp [List.getD, List.getElem?_append_left (show j < avs.length by rw [h.len]; exact hj')]
      rw [e1, e2]
      exact ⟨ao', c', e, ki ho⟩
    · have ej : j = nds.length := by simp at hj; omega
      subst ej
      have e1 : (nds ++ [nd]).getD nds.length nd0 = nd := by simp [List.getD]
      have e2 : (avs ++ [Value.slice ao nd.args.length ac]).getD nds.length undef = .slice ao nd.args.length ac := by rw [← h.len]; simp [List.getD]
      rw [e1, e2]
      exact ⟨ao, ac, rfl, ki ha⟩
end
/-- The graph of a knot. -/
def gE (st : List Nd) (rs : List Int) (E : Nat → Nat) : Gf := ⟨st.map (renum (EI E)), rs.map (EI E)⟩
theorem og_keep {w w' : World} {B : Nat} {nv rv : Value} {avs : List Value} {g : Gf} (h : Og w B nv rv avs g) (hm : ∀ k, B ≤ k → k < w.heap.size → w'.heap[k]? = w.heap[k]?) : Og w' B nv rv avs g := by
  have kr : ∀ {e : TypeId} {z : Nat} {v : Value} {n : Nat} {xs : List Value}, w.ownsRow B e z v n xs → w'.ownsRow B e z v n xs := fun ho => row_keep ho (fun k hk => hm k (ho.lt k hk).1 (ho.lt k hk).2)
  refine ⟨⟨kr h.on.n, h.on.len, fun j hj => ?_, h.on.nd⟩, h.nsl, ?_, h.ap⟩
  · obtain ⟨ao, c, e, ho⟩ := h.on.a j hj
    exact ⟨ao, c, e, kr ho⟩
  · obtain ⟨ao, c, e, ho⟩ := h.r
    exact ⟨ao, c, e, kr ho⟩
end Go.Proofs.Ytllafbghomohhaa

/- Equations between nodes: which nodes have become one, as plain data. -/
namespace Go.Proofs.Ytllafbghomohhaa
open Go.RowKit

/-- The node at a place; the place of its argument. -/
def ndN (ns : List Nd) (x : Nat) : Nd := ns.getD x nd0
def argN (ns : List Nd) (x k : Nat) : Nat := ((ndN ns x).args.getD k 0).toNat
/-- Two nodes have one label. -/
def labS (m n : Nd) : Prop := m.kind = n.kind ∧ m.name = n.name ∧ m.num = n.num ∧ m.args.length = n.args.length
theorem labS.symm {m n : Nd} (h : labS m n) : labS n m := ⟨h.1.symm, h.2.1.symm, h.2.2.1.symm, h.2.2.2.symm⟩
theorem labS.trans {l m n : Nd} (h : labS l m) (k : labS m n) : labS l n := ⟨h.1.trans k.1, h.2.1.trans k.2.1, h.2.2.1.trans k.2.2.1, h.2.2.2.trans k.2.2.2⟩
theorem labS.refl (m : Nd) : labS m m := ⟨rfl, rfl, rfl, rfl⟩
/-- What makes nodes one. -/
structure Eq3 (R : Nat → Nat → Prop) : Prop where
  refl : ∀ x, R x x
  symm : ∀ x y, R x y → R y x
  trans : ∀ x y z, R x y → R y z → R x z
/-- .. and keeps to labels and arguments. -/
structure Cg (ns : List Nd) (R : Nat → Nat → Prop) : Prop extends Eq3 R where
  lab : ∀ x y, x < ns.length → y < ns.length → R x y → (ndN ns x).kind ≠ 1 → (ndN ns y).kind ≠ 1 → labS (ndN ns x) (ndN ns y) ∧ ∀ k, k < (ndN ns x).args.length → R (argN ns x k) (argN ns y k)
/-- What follows from what has become one and from what is to be done. -/
def Gnf (E : Nat → Nat) (todo : List (Nat × Nat)) (u v : Nat) : Prop := ∀ R, Eq3 R → (∀ x y, E x = E y → R x y) → (∀ p ∈ todo, R p.1 p.2) → R u v
/-- All arguments are nodes; a variable has none. -/
structure GoodA (ns : List Nd) : Prop where
  arg : ∀ x, x < ns.length → ∀ k, k < (ndN ns x).args.length → 0 ≤ (ndN ns x).args.getD k 0 ∧ argN ns x k < ns.length
  var : ∀ x, (ndN ns x).kind = 1 → (ndN ns x).args = []
  few : ∀ x, (ndN ns x).args.length ≤ 8
/-- The nodes of which pairs are one: so far, with what is to be done. -/
structure Un (ns : List Nd) (P : List (Nat × Nat)) (E : Nat → Nat) (todo : List (Nat × Nat)) : Prop where
  rng : ∀ x, x < ns.length → E x < ns.length
  idem : ∀ x, E (E x) = E x
  min : ∀ R, Cg ns R → (∀ p ∈ P, R p.1 p.2) → (∀ x y, E x = E y → R x y) ∧ ∀ p ∈ todo, R p.1 p.2
  tr : ∀ p ∈ todo, p.1 < ns.length ∧ p.2 < ns.length
  rep : ∀ x, x < ns.length → (ndN ns x).kind ≠ 1 → (ndN ns (E x)).kind ≠ 1 ∧ labS (ndN ns x) (ndN ns (E x)) ∧ ∀ k, k < (ndN ns x).args.length → Gnf E todo (argN ns x k) (argN ns (E x) k)
  got : ∀ p ∈ P, Gnf E todo p.1 p.2
theorem Un.init (ns : List Nd) : Un ns [] id [] :=
  ⟨fun _ h => h, fun _ => rfl, fun R hR _ => ⟨fun x y e => (show x = y from e) ▸ hR.refl x, fun p h => (by cases h)⟩, fun p h => (by cases h), fun x _ hk => ⟨hk, labS.refl _, fun k _ R hR _ _ => hR.refl _⟩, fun p h => (by cases h)⟩
theorem Gnf.mono {E : Nat → Nat} {t t' : List (Nat × Nat)} {u v : Nat} (h : Gnf E t u v) (ht : ∀ p ∈ t, p ∈ t') : Gnf E t' u v := fun R hR hk hp => h R hR hk (fun p hq => hp p (ht p hq))
theorem Un.pair {ns : List Nd} {P : List (Nat × Nat)} {E : Nat → Nat} (h : Un ns P E []) {i j : Nat} (hi : i < ns.length) (hj : j < ns.length) : Un ns (P ++ [(i, j)]) E [(i, j)] := by
  refine ⟨h.rng, h.idem, fun R hR hp => ⟨(h.min R hR (fun p hq => hp p (by simp [hq]))).1, fun p hq => ?_⟩, fun p hq => ?_, fun x hx hk => ?_, fun p hq => ?_⟩
  · have e : p = (i, j) := by simpa using hq
    subst e
    exact hp (i, j) (by simp)
  · have e : p = (i, j) := by simpa using hq
    subst e
    exact ⟨hi, hj⟩
  · obtain ⟨h1, h2, h3⟩ := h.rep x hx hk
    exact ⟨h1, h2, fun k hk => (h3 k hk).mono (by simp)⟩
  · rcases List.mem_append.1 hq with e | e
    · exact (h.got p e).mono (by simp)
    · exact fun R _ _ ht => ht p e
theorem Un.skip {ns : List Nd} {P : List (Nat × Nat)} {E : Nat → Nat} {todo : List (Nat × Nat)} {a b : Nat} (h : Un ns P E (todo ++ [(a, b)])) (he : E a = E b) : Un ns P E todo := by
  have hm : ∀ {u v : Nat}, Gnf E (todo ++ [(a, b)]) u v → Gnf E todo u v := fun hg R hR hk hp => hg R hR hk (fun p hq => by
    rcases List.mem_append.1 hq with e | e
    · exact hp p e
    · have e1 : p = (a, b) := by simpa using e
      subst e1
      exact hk a b he)
  refine ⟨h.rng, h.idem, fun R hR hp => ⟨(h.min R hR hp).1, fun p hq => (h.min R hR hp).2 p (by simp [hq])⟩, fun p hq => h.tr p (by simp [hq]), fun x hx hk => ?_, fun p hq => hm (h.got p hq)⟩
  obtain ⟨h1, h2, h3⟩ := h.rep x hx hk
  exact ⟨h1, h2, fun k hk => hm (h3 k hk)⟩
/-- The pairs of arguments that two nodes that become one bring. -/
def newsF (ns : List Nd) (keep drop : Nat) : Nat → List (Nat × Nat)
  | 0 => []
  | k + 1 => newsF ns keep drop k ++ [(argN ns keep k, argN ns drop k)]
theorem newsF_mem {ns : List Nd} {keep drop : Nat} : ∀ {n : Nat} {p : Nat × Nat}, p ∈ newsF ns keep drop n ↔ ∃ k, k < n ∧ p = (argN ns keep k, argN ns drop k)
  | 0, p => ⟨fun h => (by cases h), fun ⟨k, h, _⟩ => absurd h (Nat.not_lt_zero _)⟩
  | n + 1, p => by
    rw [newsF, List.mem_append, newsF_mem (n := n)]
    constructor
    · rintro (⟨k, hk, e⟩ | h)
      · exact ⟨k, by omega, e⟩
      · exact ⟨n, by omega, by simpa using h⟩
    · rintro ⟨k, hk, e⟩
      by_cases hn : k < n
      · exact Or.inl ⟨k, hn, e⟩
      · have e1 : k = n := by omega
        subst e1
        exact Or.inr (by simp [e])
theorem newsF_len (ns : List Nd) (keep drop : Nat) : ∀ n, (newsF ns keep drop n).length = n
  | 0 => rfl
  | n + 1 => by rw [newsF, List.length_append, newsF_len ns keep drop n]; rfl
theorem Un.bind {ns : List Nd} (hA : GoodA ns) {P : List (Nat × Nat)} {E : Nat → Nat} {todo : List (Nat × Nat)} {a b keep drop : Nat} (h : Un ns P E (todo ++ [(a, b)])) (hkd : (keep = E a ∧ drop = E b) ∨ (keep = E b ∧ drop = E a)) (hne : keep ≠ drop)
    (hl : (ndN ns drop).kind = 1 ∨ ((ndN ns drop).kind ≠ 1 ∧ (ndN ns keep).kind ≠ 1 ∧ labS (ndN ns keep) (ndN ns drop))) : Un ns P (bindE E (drop, keep)) (todo ++ newsF ns keep drop (ndN ns drop).args.length) := by
  have hab := h.tr (a, b) (by simp)
  have hEk : E keep = keep := by rcases hkd with ⟨e, _⟩ | ⟨e, _⟩ <;> rw [e, h.idem]
  have hEd : E drop = drop := by rcases hkd with ⟨_, e⟩ | ⟨_, e⟩ <;> rw [e, h.idem]
  have hkN : keep < ns.length := by rcases hkd with ⟨e, _⟩ | ⟨e, _⟩ <;> rw [e]; exact h.rng _ hab.1; exact h.rng _ hab.2
  have hdN : drop < ns.length := by rcases hkd with ⟨_, e⟩ | ⟨_, e⟩ <;> rw [e]; exact h.rng _ hab.2; exact h.rng _ hab.1
  have hE' : ∀ x, bindE E (drop, keep) x = if E x = drop then keep else E x := fun x => by
    show (if E x = drop then E keep else E x) = _
    rw [hEk]
  have hker : ∀ x y, E x = E y → bindE E (drop, keep) x = bindE E (drop, keep) y := fun x y e => by rw [hE', hE', e]
  have hpr : bindE E (drop, keep) a = bindE E (drop, keep) b := by
    rw [hE', hE']
    rcases hkd with ⟨e1, e2⟩ | ⟨e1, e2⟩
    · rw [if_neg (fun e => hne (by rw [e1, e])), if_pos e2.symm, e1]
    · rw [if_pos e2.symm, if_neg (fun e => hne (by rw [e1, e])), e1]
  have hmono : ∀ {u v : Nat}, Gnf E (todo ++ [(a, b)]) u v → Gnf (bindE E (drop, keep)) (todo ++ newsF ns keep drop (ndN ns drop).args.length) u v := fun hg R hR hk hp => hg R hR (fun x y e => hk x y (hker x y e)) (fun p hq => by
    rcases List.mem_append.1 hq with e | e
    · exact hp p (by simp [e])
    · have e1 : p = (a, b) := by simpa using e
      subst e1
      exact hk a b hpr)
  refine ⟨fun x hx => ?_, fun x => ?_, fun R hR hp => ?_, fun p hq => ?_, fun x hx hk => ?_, fun p hq => hmono (h.got p hq)⟩
  · rw [hE']
    split
    · exact hkN
    · exact h.rng x hx
  · rw [hE' x]
    split
    · rw [hE', hEk, if_neg hne]
    · rename_i e
      rw [hE', h.idem, if_neg e]
  · obtain ⟨h1, h2⟩ := h.min R hR hp
    have hRab := h2 (a, b) (by simp)
    have hRkd : R keep drop := by
      rcases hkd with ⟨e1, e2⟩ | ⟨e1, e2⟩
      · exact hR.trans _ a _ (h1 _ _ (by rw [hEk, e1])) (hR.trans _ b _ hRab (h1 _ _ (by rw [hEd, e2])))
      · exact hR.trans _ b _ (h1 _ _ (by rw [hEk, e1])) (hR.trans _ a _ (hR.symm _ _ hRab) (h1 _ _ (by rw [hEd, e2])))
    have hto : ∀ x, R x (bindE E (drop, keep) x) := fun x => by
      rw [hE']
      split
      · rename_i e
        exact hR.trans _ drop _ (h1 _ _ (by rw [e, hEd])) (hR.symm _ _ hRkd)
      · exact h1 _ _ (h.idem x).symm
    refine ⟨fun x y e => hR.trans _ _ _ (hto x) (by rw [e]; exact hR.symm _ _ (hto y)), fun p hq => ?_⟩
    rcases List.mem_append.1 hq with e | e
    · exact h2 p (by simp [e])
    · obtain ⟨k, hk, rfl⟩ := newsF_mem.1 e
      rcases hl with hv | ⟨hd, hkk, hlab⟩
      · rw [hA.var drop hv] at hk
        exact absurd hk (Nat.not_lt_zero _)
      · exact (hR.lab keep drop hkN hdN hRkd hkk hd).2 k (by rw [hlab.2.2.2]; exact hk)
  · rcases List.mem_append.1 hq with e | e
    · exact h.tr p (by simp [e])
    · obtain ⟨k, hk, rfl⟩ := newsF_mem.1 e
      rcases hl with hv | ⟨hd, hkk, hlab⟩
      · rw [hA.var drop hv] at hk
        exact absurd hk (Nat.not_lt_zero _)
      · exact ⟨(hA.arg keep hkN k (by rw [hlab.2.2.2]; exact hk)).2, (hA.arg drop hdN k hk).2⟩
  · obtain ⟨h1, h2, h3⟩ := h.rep x hx hk
    by_cases e : E x = drop
    · have e1 : bindE E (drop, keep) x = keep := by rw [hE', if_pos e]
      rw [e] at h1 h2 h3
      rcases hl with hv | ⟨hd, hkk, hlab⟩
      · exact absurd hv h1
      · rw [e1]
        refine ⟨hkk, h2.trans hlab.symm, fun k hk R hR hkr hp => ?_⟩
        have g1 := hmono (h3 k hk) R hR hkr hp
        have g2 := hp (argN ns keep k, argN ns drop k) (by
          rw [List.mem_append]
          exact Or.inr (newsF_mem.2 ⟨k, by rw [← h2.2.2.2]; exact hk, rfl⟩))
        exact hR.trans _ _ _ g1 (hR.symm _ _ g2)
    · have e1 : bindE E (drop, keep) x = E x := by rw [hE', if_neg e]
      rw [e1]
      exact ⟨h1, h2, fun k hk => hmono (h3 k hk)⟩
/-- There is no solution. -/
def NoSol (ns : List Nd) (P : List (Nat × Nat)) : Prop := ∀ R, Cg ns R → (∀ p ∈ P, R p.1 p.2) → False
theorem Un.fail {ns : List Nd} {P : List (Nat × Nat)} {E : Nat → Nat} {todo : List (Nat × Nat)} {a b keep drop : Nat} (h : Un ns P E (todo ++ [(a, b)])) (hkd : (keep = E a ∧ drop = E b) ∨ (keep = E b ∧ drop = E a)) (hd : (ndN ns drop).kind ≠ 1) (hk : (ndN ns keep).kind ≠ 1) (hl : ¬ labS (ndN ns keep) (ndN ns drop)) : NoSol ns P := fun R hR hp => by
  obtain ⟨h1, h2⟩ := h.min R hR hp
  have hab := h.tr (a, b) (by simp)
  have hRab := h2 (a, b) (by simp)
  have ha : R a (E a) := h1 _ _ (h.idem a).symm
  have hb : R b (E b) := h1 _ _ (h.idem b).symm
  have hE : R (E a) (E b) := hR.trans _ _ _ (hR.symm _ _ ha) (hR.trans _ _ _ hRab hb)
  rcases hkd with ⟨rfl, rfl⟩ | ⟨rfl, rfl⟩
  · exact hl (hR.lab _ _ (h.rng _ hab.1) (h.rng _ hab.2) hE hk hd).1
  · exact hl (hR.lab _ _ (h.rng _ hab.2) (h.rng _ hab.1) (hR.symm _ _ hE) hk hd).1
theorem NoSol.more {ns : List Nd} {P Q : List (Nat × Nat)} (h : NoSol ns P) (hq : ∀ p ∈ P, p ∈ Q) : NoSol ns Q := fun R hR hp => h R hR (fun p hm => hp p (hq p hm))
/-- Nothing is to be done any more: what has become one is a solution, and the least. -/
theorem Un.done {ns : List Nd} {P : List (Nat × Nat)} {E : Nat → Nat} (h : Un ns P E []) : Cg ns (fun x y => E x = E y) ∧ (∀ p ∈ P, E p.1 = E p.2) ∧ ∀ R, Cg ns R → (∀ p ∈ P, R p.1 p.2) → ∀ x y, E x = E y → R x y := by
  have h3 : Eq3 (fun x y => E x = E y) := ⟨fun _ => rfl, fun _ _ e => e.symm, fun _ _ _ e f => e.trans f⟩
  have hg : ∀ {u v : Nat}, Gnf E [] u v → E u = E v := fun hg => hg (fun x y => E x = E y) h3 (fun _ _ e => e) (fun p hp => by cases hp)
  refine ⟨⟨h3, fun x y hx hy e hkx hky => ?_⟩, fun p hp => hg (h.got p hp), fun R hR hp => (h.min R hR hp).1⟩
  obtain ⟨a1, a2, a3⟩ := h.rep x hx hkx
  obtain ⟨b1, b2, b3⟩ := h.rep y hy hky
  have e' : E x = E y := e
  rw [e'] at a1 a2 a3
  refine ⟨a2.trans b2.symm, fun k hk => ?_⟩
  exact (hg (a3 k hk)).trans (hg (b3 k (by have q1 := b2.2.2.2; have q2 := a2.2.2.2; omega))).symm
/-- How many nodes stand for themselves. -/
def fixN (E : Nat → Nat) : Nat → Nat
  | 0 => 0
  | n + 1 => fixN E n + if E n = n then 1 else 0
theorem fixN_le {E E' : Nat → Nat} (h : ∀ x, E' x = x → E x = x) : ∀ n, fixN E' n ≤ fixN E n
  | 0 => Nat.le_refl _
  | n + 1 => by
    have := fixN_le h n
    rw [fixN, fixN]
    by_cases e : E' n = n
    · rw [if_pos e, if_pos (h n e)]; omega
    · rw [if_neg e]; omega
theorem fixN_lt {E E' : Nat → Nat} (h : ∀ x, E' x = x → E x = x) {d : Nat} (hd : E d = d) (hd' : E' d ≠ d) : ∀ n, d < n → fixN E' n < fixN E n
  | 0, h0 => absurd h0 (Nat.not_lt_zero _)
  | n + 1, hn => by
    rw [fixN, fixN]
    by_cases e : d = n
    · subst e
      have := fixN_le h d
      rw [if_neg hd', if_pos hd]
      omega
    · have := fixN_lt h hd hd' n (by omega)
      by_cases e2 : E' n = n
      · rw [if_pos e2, if_pos (h n e2)]; omega
      · rw [if_neg e2]; omega
theorem fixN_bind {E : Nat → Nat} {keep drop n : Nat} (hk : E keep = keep) (hd : E drop = drop) (hne : keep ≠ drop) (hn : drop < n) : fixN (bindE E (drop, keep)) n < fixN E n := by
  have hE' : ∀ x, bindE E (drop, keep) x = if E x = drop then keep else E x := fun x => by
    show (if E x = drop then E keep else E x) = _
    rw [hk]
  refine fixN_lt (fun x e => ?_) hd (by rw [hE', if_pos hd]; exact hne) n hn
  rw [hE'] at e
  split at e
  · rename_i e2
    subst e
    exact hk
  · exact e
theorem fixN_id : ∀ n, fixN id n = n
  | 0 => rfl
  | n + 1 => by rw [fixN, fixN_id n, if_pos (show id n = n from rfl)]
theorem fixN_top (E : Nat → Nat) : ∀ n, fixN E n ≤ n
  | 0 => Nat.le_refl _
  | n + 1 => by
    have := fixN_top E n
    rw [fixN]
    split <;> omega
end Go.Proofs.Ytllafbghomohhaa

/- end and ends of package solve's merge. -/
namespace Go.Proofs.Ytllafbghomohhaa
open Go.RowKit

/-- A merge at block mb: its nodes lie in an older world, its leads in a row of its own. -/
structure Mg (W0 w : World) (mb : Nat) (nv lv : Value) (ns : List Nd) (L : List Nat) : Prop where
  nd : Rn W0 nv ns
  bel : Below W0.heap.size W0 w
  blk : w.heap[mb]? = some (.cells #[nv, lv] 86)
  base : W0.heap.size ≤ mb
  l : w.ownsRow W0.heap.size 3 1 lv L.length ((ints L).map (Value.int .i64))
  ll : L.length = ns.length
section
variable {W0 w w' : World} {mb : Nat} {nv lv : Value} {ns : List Nd} {L : List Nat}
theorem Mg.lne (h : Mg W0 w mb nv lv ns L) {k : Nat} (hk : lv.ownBlock = some k) : k ≠ mb := by
  obtain ⟨cur, hc⟩ := row_obj h.l hk
  exact obj_ne hc h.blk (by decide)
/-- What keeps the two blocks keeps the merge. -/
theorem Mg.keep (h : Mg W0 w mb nv lv ns L) (hb : Below W0.heap.size W0 w') (hm : w'.heap[mb]? = w.heap[mb]?) (hk : ∀ k, lv.ownBlock = some k → w'.heap[k]? = w.heap[k]?) : Mg W0 w' mb nv lv ns L :=
  ⟨h.nd, hb, hm.trans h.blk, h.base, row_keep h.l hk, h.ll⟩
theorem Mg.next (h : Mg W0 w mb nv lv ns L) (hb : Below w.heap.size w w') : Mg W0 w' mb nv lv ns L :=
  h.keep (Below.next h.bel hb) (hb.block mb (lt_of_block h.blk)) (fun k hk => hb.block k (h.l.lt k hk).2)
theorem Mg.lsome (h : Mg W0 w mb nv lv ns L) {n : Nat} (hn : n < ns.length) : ∃ g c, lv = .slice (some ⟨g, 0, none⟩) ns.length c := by
  have hl := h.l
  rw [h.ll] at hl
  rcases hl.2 with ⟨_, h0⟩ | ⟨g, cap, cur, rfl, _⟩
  · omega
  · exact ⟨g, cap, rfl⟩
theorem Mg.lcell {g c : Nat} (h : Mg W0 w mb nv (.slice (some ⟨g, 0, none⟩) ns.length c) ns L) {n : Nat} (hn : n < ns.length) : w.cell? ⟨g, n, none⟩ = some (.int .i64 ((L.getD n 0 : Nat) : Int)) ∧ w.frozen? ⟨g, n, none⟩ = false := by
  have hl := h.l
  rw [h.ll] at hl
  exact ⟨by rw [hl.cellAt n (by omega)]; exact ints_at (by rw [h.ll]; exact hn), hl.frozenAt n⟩
theorem Mg.led {g c : Nat} (h : Mg W0 w mb nv (.slice (some ⟨g, 0, none⟩) ns.length c) ns L) (n v : Nat) : Mg W0 (w.setCell ⟨g, n, none⟩ (.int .i64 (v : Int))) mb nv (.slice (some ⟨g, 0, none⟩) ns.length c) ns (L.set n v) := by
  have hg := (h.l.lt g rfl).1
  have hne := h.lne (k := g) rfl
  refine ⟨h.nd, h.bel.setCell (p := ⟨g, n, none⟩) hg _, (Below.heap_setCell _ _ _ _ (Ne.symm hne)).trans h.blk, h.base, ?_, by simp [h.ll]⟩
  have h1 := h.l
  rw [h.ll] at h1
  have h2 := (World.ownsRow.stored h1 n (.int .i64 (v : Int))).1
  rw [ints_set] at h2
  rw [List.length_set, h.ll]
  exact h2
/-- Only what leads to what may have changed. -/
def MgL (W0 w w' : World) (mb : Nat) (nv lv : Value) (ns : List Nd) (E : Nat → Nat) : Prop := ∃ L, Mg W0 w' mb nv lv ns L ∧ Ld L E ∧ Mo (fun k => lv.ownBlock = some k) w w'
theorem MgL.trans {w1 w2 : World} {E : Nat → Nat} (hm : Mo (fun k => lv.ownBlock = some k) w w1) (h : MgL W0 w1 w2 mb nv lv ns E) : MgL W0 w w2 mb nv lv ns E := by
  obtain ⟨L, hk, hl, hm2⟩ := h
  exact ⟨L, hk, hl, hm.trans hm2 (fun x hx => Or.inl hx)⟩
theorem MgL.next {w1 w2 : World} {E : Nat → Nat} (h : MgL W0 w w1 mb nv lv ns E) (hb : Below w1.heap.size w1 w2) : MgL W0 w w2 mb nv lv ns E := by
  obtain ⟨L, hk, hl, hm⟩ := h
  exact ⟨L, hk.next hb, hl, hm.trans (Mo.ofBelow hb : Mo (fun k => lv.ownBlock = some k) w1 w2) (fun x hx => Or.inl hx)⟩
end
theorem blk2y {w : World} {q : Nat} {u0 u1 : Value} {T : TypeId} (h : w.heap[q]? = some (.cells #[u0, u1] T)) : (w.cell? ⟨q, 0, none⟩ = some u0 ∧ w.cell? ⟨q, 1, none⟩ = some u1) ∧ w.frozen? ⟨q, 0, none⟩ = false ∧ w.frozen? ⟨q, 1, none⟩ = false := by
  refine ⟨⟨?_, ?_⟩, ?_, ?_⟩ <;> simp [World.cell?, World.frozen?, h]
set_option maxRecDepth 100000 in
set_option maxHeartbeats 4000000 in
theorem send_any {W0 w : World} {mb : Nat} {nv lv : Value} {ns : List Nd} {L : List Nat} {E : Nat → Nat} (h : Mg W0 w mb nv lv ns L) (hE : Ld L E) (n : Nat) (hn : n < ns.length) :
    Calls Try.prog 55 #[.pointer (some ⟨mb, 0, none⟩), .int .i64 (n : Int)] w fun e w' => e = .returned (.int .i64 (E n : Int)) ∧ MgL W0 w w' mb nv lv ns E := by
  obtain ⟨g, c, rfl⟩ := h.lsome hn
  obtain ⟨r, M, hM, hr⟩ := hE.rank
  have hS : Hid (∃ (L : List Nat), Mg W0 w mb nv (.slice (some ⟨g, 0, none⟩) ns.length c) ns L ∧ Ld L E ∧ Lr L r ∧ Mo (fun k => (Value.slice (some ⟨g, 0, none⟩) ns.length c).ownBlock = some k) w w) := ⟨L, h, hE, hr, Mo.refl _ _⟩
  clear h hE hr hM
  go_enter Try.func55, Try.ntmps55
  go_wp2
  go_loopw [1] (fun i wr => ∃ m : Nat, m < ns.length ∧ i = .int .i64 (m : Int) ∧ Hid (E m = E n) ∧ Hid (∃ (L : List Nat), Mg W0 wr mb nv (.slice (some ⟨g, 0, none⟩) ns.length c) ns L ∧ Ld L E ∧ Lr L r ∧ Mo (fun k => (Value.slice (some ⟨g, 0, none⟩) ns.length c).ownBlock = some k) w wr)) (fun i _ => r (intOf i).toNat)
  case atStart => exact ⟨n, hn, rfl, rfl, hS⟩
  case round =>
    clear hS
    obtain ⟨m, hm, rfl, hEm, hS⟩ := hrel
    obtain ⟨L, hK, hE, hr, hM⟩ := hS.out
    have hmL : m < L.length := by rw [hK.ll]; exact hm
    obtain ⟨⟨c0, c1⟩, f0, f1⟩ := blk2y hK.blk
    obtain ⟨d0, d1⟩ := hK.lcell hm
    have zk := lt_of_cell c0
    have zg := lt_of_cell d0
    have hkg : mb ≠ g := Ne.symm (hK.lne (k := g) rfl)
    have hm2 : (m : Int) < (ns.length : Int) := by omega
    by_cases e : L.getD m 0 = m
    · have hE1 : Hid (E n = m) := hEm.out.symm.trans ((hE.fix m hmL).1 e)
      have hfin : Hid (MgL W0 w wr mb nv (.slice (some ⟨g, 0, none⟩) ns.length c) ns E) := ⟨L, hK, hE, hM⟩
      rw [e] at d0
      clear e hK hE hr hM hS hEm
      go_wp2
      go_ret
      exact ⟨ret_int (by rw [hE1.out]), hfin.out⟩
    · have h2 := hE.rng m hmL
      rw [hK.ll] at h2
      have h2i : ((L.getD m 0 : Nat) : Int) < (ns.length : Int) := by omega
      obtain ⟨p0, p1⟩ := hK.lcell h2
      have h3 := hE.rng _ (show L.getD m 0 < L.length by rw [hK.ll]; exact h2)
      rw [hK.ll] at h3
      have hK2 := hid (hK.led m (L.getD (L.getD m 0) 0))
      have hE2 := hid (hE.half hmL)
      have hr2 := hid (Lr.half hE hr hmL)
      have hM2 := hid (hM.setCell (p := ⟨g, m, none⟩) (Or.inl rfl) (.int .i64 ((L.getD (L.getD m 0) 0 : Nat) : Int)))
      have hne : ((L.getD m 0 : Nat) : Int) ≠ (m : Int) := by omega
      have hEs : Hid (E (L.getD (L.getD m 0) 0) = E n) := ((hE.st _ (by rw [hK.ll]; exact h2)).trans (hE.st m hmL)).trans hEm.out
      have hrk : Hid (r (L.getD (L.getD m 0) 0) < r m) := by
        have a1 := hr m hmL e
        by_cases e2 : L.getD (L.getD m 0) 0 = L.getD m 0
        · show _ < _
          rw [e2]; exact a1
        · have a2 := hr _ (by rw [hK.ll]; exact h2) e2
          show _ < _
          omega
      clear e hK hE hr hM hS hEm
      generalize L.getD (L.getD m 0) 0 = y at *
      generalize L.getD m 0 = x at *
      go_wp2
      go_still_tail 19, (by kernel_rfl)
      change wpList _ _ _ _ _ wr.drew
      go_wp2
      go_roundw
      case rel => exact ⟨y, h3, rfl, hEs, _, hK2.out.next (⟨rfl, rfl, rfl, Nat.le_refl _, fun _ _ => rfl⟩), hE2.out, hr2.out, ⟨hM2.out.os, hM2.out.tape, hM2.out.output, hM2.out.size, hM2.out.block⟩⟩
      case measure => simp [intOf]; exact hrk.out
set_option maxRecDepth 100000 in
set_option maxHeartbeats 4000000 in
/-- ends, of numbers that lie in the older world or in a row beside. -/
theorem sends_any {W0 w : World} {mb : Nat} {nv lv : Value} {ns : List Nd} {L : List Nat} {E : Nat → Nat} (h : Mg W0 w mb nv lv ns L) (hE : Ld L E) {v : Value} {l : List Int} (hv : ∀ w', Mo (fun k => lv.ownBlock = some k) w w' → Ri w' v l) (hr : ∀ x ∈ l, 0 ≤ x ∧ x < (ns.length : Int)) (hl : l.length ≤ 100000) :
    Calls Try.prog 46 #[.pointer (some ⟨mb, 0, none⟩), v] w fun e w' => (∃ ao c, e = .returned (.slice ao l.length c) ∧ w'.ownsRow w.heap.size 3 1 (.slice ao l.length c) l.length ((l.map (EI E)).map (Value.int .i64))) ∧ MgL W0 w w' mb nv lv ns E := by
  obtain ⟨i0, hi, hz0, hz1, hz2⟩ := info_parts infoI
  have hV := hid hv
  have hlB : Hid (∀ k, lv.ownBlock = some k → k < w.heap.size) := fun k hk => (h.l.lt k hk).2
  have hmB : Hid (mb < w.heap.size) := lt_of_block h.blk
  have hbB : Hid (W0.heap.size ≤ w.heap.size) := h.bel.size
  obtain ⟨va, vc, rfl, _⟩ := hv w (Mo.refl _ _)
  have hS : Hid (MgL W0 w w mb nv lv ns E) := ⟨L, h, hE, Mo.refl _ _⟩
  have hR := hid hr
  clear h hE hv hr
  go_enter Try.func46, Try.ntmps46
  go_wp2
  go_loopw [5, 10] (fun x i wr => ∃ (j : Nat) (ao : Option Addr) (c : Nat), j ≤ l.length ∧ i = .int .i64 (j : Int) ∧ x = .slice ao j c ∧ Hid (wr.ownsRow w.heap.size 3 1 (.slice ao j c) j (((l.take j).map (EI E)).map (Value.int .i64))) ∧ Hid (MgL W0 w wr mb nv lv ns E)) (fun _ i _ => l.length - (intOf i).toNat)
  case atStart => exact ⟨0, none, 0, by omega, rfl, rfl, World.ownsRow_nil _ _ _ _, hS⟩
  case round =>
    clear hS
    obtain ⟨j, ao, c, hj, rfl, rfl, ho, hS⟩ := hrel
    by_cases hlt : j < l.length
    · obtain ⟨L', hK, hE, hM⟩ := hS.out
      obtain ⟨va', vc', hve, hvc⟩ := hV.out wr hM
      have hve' : va = va' := by injection hve
      subst hve'
      obtain ⟨b, o, rfl, hu⟩ := hvc j hlt
      have hx := hR.out _ (getD_mem hlt)
      have hst : Hid (((l.take (j + 1)).map (EI E)).map (Value.int .i64) = ((l.take j).map (EI E)).map (Value.int .i64) ++ [.int .i64 (EI E (l.getD j 0))]) := show _ = _ by
        rw [List.take_add_one, List.map_append, List.map_append]
        simp [List.getD, hlt]
      have hzb := lt_of_cell hu
      clear hve hvc hV
      generalize l.getD j 0 = x at *
      obtain ⟨xn, rfl⟩ : ∃ xn : Nat, x = (xn : Int) := ⟨x.toNat, by omega⟩
      have hcall := send_any hK hE xn (by omega)
      have hEI : EI E (xn : Int) = ((E xn : Nat) : Int) := rfl
      rw [hEI] at hst
      have hnx : Hid (∀ w1, MgL W0 wr w1 mb nv lv ns E → w1.ownsRow w.heap.size 3 1 (.slice ao j c) j (((l.take j).map (EI E)).map (Value.int .i64)) ∧ w.heap.size ≤ w1.heap.size ∧ ∀ (w2 : World) (o : Obj), (w1.alloc o).grownBy w2 (Value.slice ao j c).ownBlock → MgL W0 w w2 mb nv lv ns E) := fun w1 hL1 => by
        obtain ⟨L1, hK1, hE1, hM1⟩ := hL1
        have hs1 := hM.size
        have hs2 := hM1.size
        have hbo := hbB.out
        refine ⟨row_keep ho.out (fun k hk => ?_), by omega, fun w2 o hg => ?_⟩
        · have h1 := ho.out.lt k hk
          exact hM1.block k h1.2 (fun e => by have := hlB.out k e; omega)
        · have hM2 := (hM.trans hM1 (fun x hx => Or.inl hx)).alloc o
          have hM3 := hM2.grown hg (fun k hk => Or.inr ((ho.out.lt k hk).1))
          have hold : ∀ k, k < w.heap.size → w2.heap[k]? = w1.heap[k]? := fun k hk => by
            rw [hg.block k (by simp; omega) (fun e => by have := (ho.out.lt k e.symm).1; omega)]
            exact Below.heap_alloc _ _ _ (by omega)
          refine ⟨L1, hK1.keep (hK1.bel.trans ?_) (hold mb hmB.out) (fun k hk => hold k (hlB.out k hk)), hE1, hM3⟩
          exact ⟨hg.os, hg.tape, hg.output, by have := hg.size; simp at this; omega, fun k hk => hold k (by omega)⟩
      clear hK hE hM hS
      go_wp2_with (first
        | (go_at_call 55; refine hcall.mono ?_; rintro e w1 ⟨rfl, hL1⟩; obtain ⟨ho1, hs1, hnn⟩ := hnx.out w1 hL1; have ho2 := World.ownsRow.alloc ho1 (.cells #[.int .i64 ((E xn : Nat) : Int)] 3))
        | (at_builtin; go_must (refine wpList_append_lies _ rfl _ _ 23 rfl w.heap.size 3 i0 (.int .i64 0) 1 8 Try.underlying23 hi hz0 hz1 hz2 rfl (by decide) _ j _ rfl ho2 ⟨w1.heap.size, 0, none⟩ 1 1 [.int .i64 ((E xn : Nat) : Int)] rfl rfl (cell_one_new w1 _ _) (by simp [Value.oneCell']) (by decide) (by unfold maxLen; omega) (by omega) (by simp; omega) _ rfl ?_; intro g cap w2 hown2 hg2 hat2 hlt2)))
      go_roundw
      case rel => exact ⟨j + 1, _, cap, by omega, by go_num, rfl, (show World.ownsRow _ _ _ _ _ _ _ by rw [hst.out]; exact hown2), hnn w2 _ hg2⟩
      case measure => simp [intOf]; omega
    · obtain rfl : j = l.length := by omega
      have ho' := hid ho.out
      have hS' := hid hS.out
      clear ho hS
      go_wp2
      go_ret
      have h9 := ho'.out
      rw [List.take_length] at h9
      exact ⟨⟨_, _, rfl, h9⟩, hS'.out⟩
end Go.Proofs.Ytllafbghomohhaa

/- put of package tendrilref10. -/
namespace Go.Proofs.Ytllafbghomohhaa
open Go.RowKit

/-- Two classes made one, by the list of classes. -/
def putV (x y z : Nat) : Nat := if z = y then x else z
def putJ (L : List Nat) (x y j : Nat) : List Nat := (L.take j).map (putV x y) ++ L.drop j
theorem putJ_len (L : List Nat) (x y j : Nat) : (putJ L x y j).length = L.length := by
  unfold putJ
  rw [List.length_append, List.length_map, List.length_take, List.length_drop]
  omega
theorem putJ_at {L : List Nat} {x y j : Nat} (hj : j < L.length) : (putJ L x y j).getD j 0 = L.getD j 0 := by
  unfold putJ
  rw [List.getD, List.getElem?_append_right (by simp; omega)]
  simp [List.getD, List.length_take, Nat.min_eq_left (Nat.le_of_lt hj)]
theorem putJ_step {L : List Nat} {x y j : Nat} (hj : j < L.length) : (putJ L x y j).set j (putV x y (L.getD j 0)) = putJ L x y (j + 1) := by
  apply List.ext_getElem?
  intro i
  by_cases hi : i < L.length
  · by_cases e : i = j
    · subst e
      rw [List.getElem?_set_self (by rw [putJ_len]; exact hi)]
      unfold putJ
      rw [List.getElem?_append_left (by simp; omega)]
      simp [List.getD, hi]
    · rw [List.getElem?_set_ne (fun h => e h.symm)]
      unfold putJ
      by_cases h1 : i < j
      · rw [List.getElem?_append_left (by simp; omega), List.getElem?_append_left (by simp; omega)]
        simp [h1, show i < j + 1 by omega]
      · rw [List.getElem?_append_right (by simp; omega), List.getElem?_append_right (by simp; omega)]
        simp only [List.length_map, List.length_take, List.getElem?_drop]
        rw [Nat.min_eq_left (by omega), Nat.min_eq_left (by omega), show j + (i - j) = j + 1 + (i - (j + 1)) by omega]
  · rw [List.getElem?_eq_none (by rw [List.length_set, putJ_len]; omega), List.getElem?_eq_none (by rw [putJ_len]; omega)]
def putL (L : List Nat) (a b : Nat) : List Nat := if L.getD a 0 = L.getD b 0 then L else putJ L (L.getD a 0) (L.getD b 0) L.length
theorem putL_len (L : List Nat) (a b : Nat) : (putL L a b).length = L.length := by
  unfold putL
  split
  · rfl
  · exact putJ_len _ _ _ _
theorem putL_get {L : List Nat} {a b i : Nat} (hi : i < L.length) : (putL L a b).getD i 0 = putV (L.getD a 0) (L.getD b 0) (L.getD i 0) := by
  unfold putL
  split
  · rename_i e
    unfold putV
    split
    · rename_i e2; rw [e2, e]
    · rfl
  · unfold putJ
    simp [List.getD, hi]
set_option maxRecDepth 100000 in
set_option maxHeartbeats 4000000 in
theorem rput_any {w : World} {B g c a b : Nat} {L : List Nat} (ho : w.ownsRow B 3 1 (.slice (some ⟨g, 0, none⟩) L.length c) L.length ((ints L).map (Value.int .i64))) (ha : a < L.length) (hb : b < L.length) (hN : L.length ≤ 20000) :
    Calls Try.prog 50 #[.slice (some ⟨g, 0, none⟩) L.length c, .int .i64 (a : Int), .int .i64 (b : Int)] w fun e w' => e = .returned (.bool (decide (L.getD a 0 ≠ L.getD b 0))) ∧ w'.ownsRow B 3 1 (.slice (some ⟨g, 0, none⟩) L.length c) L.length ((ints (putL L a b)).map (Value.int .i64)) ∧ Mo (· = g) w w' := by
  have hai : (a : Int) < (L.length : Int) := by omega
  have hbi : (b : Int) < (L.length : Int) := by omega
  have ca : w.cell? ⟨g, a, none⟩ = some (.int .i64 ((L.getD a 0 : Nat) : Int)) := by rw [ho.cellAt a (by omega)]; exact ints_at ha
  have cb : w.cell? ⟨g, b, none⟩ = some (.int .i64 ((L.getD b 0 : Nat) : Int)) := by rw [ho.cellAt b (by omega)]; exact ints_at hb
  have hzg := lt_of_cell ca
  have HO := hid ho
  clear ho
  have hpl : Hid (putL L a b = if L.getD a 0 = L.getD b 0 then L else putJ L (L.getD a 0) (L.getD b 0) L.length) := show _ = _ from rfl
  generalize putL L a b = PL at hpl ⊢
  generalize L.getD a 0 = x at *
  generalize L.getD b 0 = y at *
  by_cases hxy : x = y
  · subst hxy
    have hpl' : PL = L := by have := hpl.out; rw [if_pos rfl] at this; exact this
    subst hpl'
    go_enter Try.func50, Try.ntmps50
    go_wp2
    go_ret
    exact ⟨by simp, HO.out, Mo.refl _ _⟩
  · have hpl' : PL = putJ L x y L.length := by have := hpl.out; rw [if_neg hxy] at this; exact this
    have hxy' : ¬ ((x : Int) = (y : Int)) := by omega
    have hD : decide (x ≠ y) = true := by simpa using hxy
    rw [hD]
    have h0 : Hid (w.ownsRow B 3 1 (.slice (some ⟨g, 0, none⟩) L.length c) L.length ((ints (putJ L x y 0)).map (Value.int .i64))) := by
      have e : putJ L x y 0 = L := by simp [putJ]
      rw [e]
      exact HO.out
    have hm0 := hid (Mo.refl (· = g) w)
    clear hpl hD
    go_enter Try.func50, Try.ntmps50
    go_wp2
    go_loopw [9] (fun i wr => ∃ j : Nat, j ≤ L.length ∧ i = .int .i64 (j : Int) ∧ Hid (wr.ownsRow B 3 1 (.slice (some ⟨g, 0, none⟩) L.length c) L.length ((ints (putJ L x y j)).map (Value.int .i64))) ∧ Hid (Mo (· = g) w wr)) (fun i _ => L.length - (intOf i).toNat)
    case atStart => exact ⟨0, Nat.zero_le _, rfl, h0, hm0⟩
    case round =>
      clear h0 hm0
      obtain ⟨j, hj, rfl, hr, hm⟩ := hrel
      by_cases hlt : j < L.length
      · have hji : (j : Int) < (L.length : Int) := by omega
        have cj : wr.cell? ⟨g, j, none⟩ = some (.int .i64 ((L.getD j 0 : Nat) : Int)) := by
          rw [hr.out.cellAt j (by omega), ints_at (by rw [putJ_len]; exact hlt), putJ_at hlt]
        have fj := hr.out.frozenAt j
        have hzr := lt_of_cell cj
        have hst := hid (putJ_step (x := x) (y := y) hlt)
        by_cases hz : L.getD j 0 = y
        · have hz' : ((L.getD j 0 : Nat) : Int) = (y : Int) := by omega
          rw [hz] at cj
          have hr2 : Hid ((wr.setCell ⟨g, j, none⟩ (.int .i64 (x : Int))).ownsRow B 3 1 (.slice (some ⟨g, 0, none⟩) L.length c) L.length ((ints (putJ L x y (j + 1))).map (Value.int .i64))) := by
            have h2 := (World.ownsRow.stored hr.out j (.int .i64 (x : Int))).1
            rw [ints_set] at h2
            have h3 := hst.out
            unfold putV at h3
            rw [if_pos hz] at h3
            rw [h3] at h2
            exact h2
          have hm2 := hid (hm.out.setCell (p := ⟨g, j, none⟩) (Or.inl rfl) (.int .i64 (x : Int)))
          clear hr hm hst hz hz'
          go_wp2
          go_roundw
          case rel => exact ⟨j + 1, by omega, by go_num, hr2, hm2⟩
          case measure => simp [intOf]; omega
        · have hz' : ¬ (((L.getD j 0 : Nat) : Int) = (y : Int)) := by omega
          have hr2 : Hid (wr.ownsRow B 3 1 (.slice (some ⟨g, 0, none⟩) L.length c) L.length ((ints (putJ L x y (j + 1))).map (Value.int .i64))) := by
            have h3 := hst.out
            unfold putV at h3
            rw [if_neg hz] at h3
            have e : (putJ L x y j).set j (L.getD j 0) = putJ L x y j := by
              have := putJ_at (x := x) (y := y) hlt
              apply List.ext_getElem?
              intro i
              by_cases ei : i = j
              · subst ei
                rw [List.getElem?_set_self (by rw [putJ_len]; exact hlt), ← this]
                simp [List.getD, putJ_len, hlt]
              · rw [List.getElem?_set_ne (fun h => ei h.symm)]
            rw [e] at h3
            have := hr.out
            rw [h3] at this
            exact this
          have hm2 := hid hm.out
          clear hr hm hst hz
          generalize L.getD j 0 = z at *
          go_wp2
          go_roundw
          case rel => exact ⟨j + 1, by omega, by go_num, hr2, hm2⟩
          case measure => simp [intOf]; omega
      · obtain rfl : j = L.length := by omega
        have hr2 := hid hr.out
        have hm2 := hid hm.out
        clear hr hm
        subst hpl'
        go_wp2
        go_ret
        exact ⟨rfl, hr2.out, hm2.out⟩
end Go.Proofs.Ytllafbghomohhaa

/- The reference's classes: plain data. -/
namespace Go.Proofs.Ytllafbghomohhaa
open Go.RowKit

/-- Classes that no unifier keeps apart. -/
structure Clo (ns : List Nd) (P : List (Nat × Nat)) (L : List Nat) : Prop where
  len : L.length = ns.length
  rng : ∀ i, i < L.length → L.getD i 0 < L.length
  min : ∀ R, Cg ns R → (∀ p ∈ P, R p.1 p.2) → ∀ x y, x < L.length → y < L.length → L.getD x 0 = L.getD y 0 → R x y
theorem Clo.put {ns : List Nd} {P : List (Nat × Nat)} {L : List Nat} (h : Clo ns P L) {a b : Nat} (ha : a < L.length) (hb : b < L.length) (hR : ∀ R, Cg ns R → (∀ p ∈ P, R p.1 p.2) → R a b) : Clo ns P (putL L a b) := by
  refine ⟨by rw [putL_len]; exact h.len, fun i hi => ?_, fun R hc hp x y hx hy he => ?_⟩
  · rw [putL_len] at hi ⊢
    rw [putL_get hi]
    unfold putV
    split
    · exact h.rng a ha
    · exact h.rng i hi
  · rw [putL_len] at hx hy
    rw [putL_get hx, putL_get hy] at he
    have m := h.min R hc hp
    have rab := hR R hc hp
    unfold putV at he
    split at he
    · rename_i e1
      split at he
      · rename_i e2
        exact m x y hx hy (e1.trans e2.symm)
      · exact hc.trans _ _ _ (m x b hx hb e1) (hc.trans _ _ _ (hc.symm _ _ rab) (m a y ha hy he))
    · split at he
      · rename_i e2
        exact hc.trans _ _ _ (m x a hx ha he) (hc.trans _ _ _ rab (m b y hb hy e2.symm))
      · exact m x y hx hy he
theorem putL_keep {L : List Nat} {a b i j : Nat} (hi : i < L.length) (hj : j < L.length) (h : L.getD i 0 = L.getD j 0) : (putL L a b).getD i 0 = (putL L a b).getD j 0 := by
  rw [putL_get hi, putL_get hj, h]
theorem putL_same {L : List Nat} {a b : Nat} (ha : a < L.length) (hb : b < L.length) : (putL L a b).getD a 0 = (putL L a b).getD b 0 := by
  rw [putL_get ha, putL_get hb]
  unfold putV
  simp
/-- Classes that keep labels and arguments make a unifier. -/
theorem clo_cg {ns : List Nd} {P : List (Nat × Nat)} {L : List Nat} (hA : GoodA ns) (hP : ∀ p ∈ P, p.1 < ns.length ∧ p.2 < ns.length ∧ L.getD p.1 0 = L.getD p.2 0) (hs : ∀ i j, i < j → j < ns.length → L.getD i 0 = L.getD j 0 → (ndN ns i).kind ≠ 1 → (ndN ns j).kind ≠ 1 → labS (ndN ns i) (ndN ns j) ∧ ∀ k, k < (ndN ns i).args.length → L.getD (argN ns i k) 0 = L.getD (argN ns j k) 0) :
    ¬ NoSol ns P := fun hn => by
  refine hn (fun x y => x = y ∨ (x < ns.length ∧ y < ns.length ∧ L.getD x 0 = L.getD y 0)) ⟨⟨fun _ => Or.inl rfl, fun x y hxy => ?_, fun x y z hxy hyz => ?_⟩, fun x y hx hy hxy hkx hky => ?_⟩ (fun p hp => Or.inr (hP p hp))
  · rcases hxy with rfl | ⟨h1, h2, h3⟩
    · exact Or.inl rfl
    · exact Or.inr ⟨h2, h1, h3.symm⟩
  · rcases hxy with rfl | ⟨h1, h2, h3⟩
    · exact hyz
    · rcases hyz with rfl | ⟨_, k2, k3⟩
      · exact Or.inr ⟨h1, h2, h3⟩
      · exact Or.inr ⟨h1, k2, h3.trans k3⟩
  · rcases hxy with rfl | ⟨_, _, h3⟩
    · exact ⟨labS.refl _, fun _ _ => Or.inl rfl⟩
    · rcases Nat.lt_trichotomy x y with hlt | rfl | hlt
      · obtain ⟨l, ar⟩ := hs x y hlt hy h3 hkx hky
        refine ⟨l, fun k hk => Or.inr ⟨(hA.arg x hx k hk).2, (hA.arg y hy k (by rw [← l.2.2.2]; exact hk)).2, ar k hk⟩⟩
      · exact ⟨labS.refl _, fun _ _ => Or.inl rfl⟩
      · obtain ⟨l, ar⟩ := hs y x hlt hx h3.symm hky hkx
        have l' := l.symm
        refine ⟨l', fun k hk => ?_⟩
        have hk' : k < (ndN ns y).args.length := by rw [← l'.2.2.2]; exact hk
        exact Or.inr ⟨(hA.arg x hx k hk).2, (hA.arg y hy k hk').2, (ar k hk').symm⟩
/-- Two of one class that are labelled otherwise: there is no unifier. -/
theorem Clo.fail {ns : List Nd} {P : List (Nat × Nat)} {L : List Nat} (h : Clo ns P L) {i j : Nat} (hi : i < ns.length) (hj : j < ns.length) (he : L.getD i 0 = L.getD j 0) (hki : (ndN ns i).kind ≠ 1) (hkj : (ndN ns j).kind ≠ 1) (hl : ¬ labS (ndN ns i) (ndN ns j)) : NoSol ns P := fun R hc hp =>
  hl (hc.lab i j hi hj (h.min R hc hp i j (by rw [h.len]; exact hi) (by rw [h.len]; exact hj) he) hki hkj).1
/-- The arguments of two of one class may be put together. -/
theorem Clo.arg {ns : List Nd} {P : List (Nat × Nat)} {L : List Nat} (h : Clo ns P L) {i j : Nat} (hi : i < ns.length) (hj : j < ns.length) (he : L.getD i 0 = L.getD j 0) (hki : (ndN ns i).kind ≠ 1) (hkj : (ndN ns j).kind ≠ 1) {k : Nat} (hk : k < (ndN ns i).args.length) : ∀ R, Cg ns R → (∀ p ∈ P, R p.1 p.2) → R (argN ns i k) (argN ns j k) := fun R hc hp =>
  (hc.lab i j hi hj (h.min R hc hp i j (by rw [h.len]; exact hi) (by rw [h.len]; exact hj) he) hki hkj).2 k hk
/-- How many classes there are. -/
def clN (L : List Nat) : Nat → Nat
  | 0 => 0
  | n + 1 => clN L n + if n ∈ L then 1 else 0
theorem clN_le {L M : List Nat} (h : ∀ z, z ∈ M → z ∈ L) : ∀ n, clN M n ≤ clN L n
  | 0 => Nat.le_refl _
  | n + 1 => by
    have := clN_le h n
    unfold clN
    by_cases hm : n ∈ M
    · rw [if_pos hm, if_pos (h n hm)]; omega
    · rw [if_neg hm]; omega
theorem clN_lt {L M : List Nat} (h : ∀ z, z ∈ M → z ∈ L) {y : Nat} (hy : y ∈ L) (hn : y ∉ M) : ∀ n, y < n → clN M n < clN L n
  | 0, h0 => absurd h0 (Nat.not_lt_zero _)
  | n + 1, h0 => by
    unfold clN
    by_cases e : y = n
    · subst e
      have := clN_le h y
      rw [if_neg hn, if_pos hy]; omega
    · have := clN_lt h hy hn n (by omega)
      by_cases hm : n ∈ M
      · rw [if_pos hm, if_pos (h n hm)]; omega
      · rw [if_neg hm]; omega
theorem getD_memN {L : List Nat} {i : Nat} (h : i < L.length) : L.getD i 0 ∈ L := by simp [List.getD, h]
theorem putL_clN {L : List Nat} {a b : Nat} (ha : a < L.length) (hb : b < L.length) (hr : ∀ i, i < L.length → L.getD i 0 < L.length) (hne : L.getD a 0 ≠ L.getD b 0) : clN (putL L a b) L.length < clN L L.length := by
  have hg : ∀ z, z ∈ putL L a b → ∃ i, i < L.length ∧ z = putV (L.getD a 0) (L.getD b 0) (L.getD i 0) := fun z hz => by
    obtain ⟨i, hi, rfl⟩ := List.getElem_of_mem hz
    have hi' : i < L.length := by rw [← putL_len L a b]; exact hi
    refine ⟨i, hi', ?_⟩
    rw [← putL_get hi']
    simp [List.getD, hi]
  refine clN_lt (fun z hz => ?_) (getD_memN hb) (fun hz => ?_) _ (hr b hb)
  · obtain ⟨i, hi, rfl⟩ := hg z hz
    unfold putV
    split
    · exact getD_memN ha
    · exact getD_memN hi
  · obtain ⟨i, hi, e⟩ := hg _ hz
    unfold putV at e
    split at e
    · exact hne e.symm
    · rename_i h1
      exact h1 e.symm
end Go.Proofs.Ytllafbghomohhaa
