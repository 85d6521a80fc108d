/- Equations between nodes: which nodes have become one, as plain data. -/
import Derived.Test.YtllafbghomohhaaADZ
import Derived.Test.YtllafbghomohhaaBiM
import Derived.Deep.RegionWith
namespace Go.Proofs.Ytllafbghomohhaa
open Go.RowKit

/-- The node at a place; the place of its argument. -/
def ndN (ns : List Nd) (x : Nat) : Nd := ns.getD x nd0
def argN (ns : List Nd) (x k : Nat) : Nat := ((ndN ns x).args.getD k 0).toNat
/-- Two nodes have one label. -/
def labS (m n : Nd) : Prop := m.kind = n.kind ∧ m.name = n.name ∧ m.num = n.num ∧ m.args.length = n.args.length
theorem labS.symm {m n : Nd} (h : labS m n) : labS n m := ⟨h.1.symm, h.2.1.symm, h.2.2.1.symm, h.2.2.2.symm⟩
theorem labS.trans {l m n : Nd} (h : labS l m) (k : labS m n) : labS l n := ⟨h.1.trans k.1, h.2.1.trans k.2.1, h.2.2.1.trans k.2.2.1, h.2.2.2.trans k.2.2.2⟩
theorem labS.refl (m : Nd) : labS m m := ⟨rfl, rfl, rfl, rfl⟩
/-- What makes nodes one. -/
structure Eq3 (R : Nat → Nat → Prop) : Prop where
  refl : ∀ x, R x x
  symm : ∀ x y, R x y → R y x
  trans : ∀ x y z, R x y → R y z → R x z
/-- .. and keeps to labels and arguments. -/
structure Cg (ns : List Nd) (R : Nat → Nat → Prop) : Prop extends Eq3 R where
  lab : ∀ x y, x < ns.length → y < ns.length → R x y → (ndN ns x).kind ≠ 1 → (ndN ns y).kind ≠ 1 → labS (ndN ns x) (ndN ns y) ∧ ∀ k, k < (ndN ns x).args.length → R (argN ns x k) (argN ns y k)
/-- What follows from what has become one and from what is to be done. -/
def Gnf (E : Nat → Nat) (todo : List (Nat × Nat)) (u v : Nat) : Prop := ∀ R, Eq3 R → (∀ x y, E x = E y → R x y) → (∀ p ∈ todo, R p.1 p.2) → R u v
/-- All arguments are nodes; a variable has none. -/
structure GoodA (ns : List Nd) : Prop where
  arg : ∀ x, x < ns.length → ∀ k, k < (ndN ns x).args.length → 0 ≤ (ndN ns x).args.getD k 0 ∧ argN ns x k < ns.length
  var : ∀ x, (ndN ns x).kind = 1 → (ndN ns x).args = []
  few : ∀ x, (ndN ns x).args.length ≤ 8
/-- The nodes of which pairs are one: so far, with what is to be done. -/
structure Un (ns : List Nd) (P : List (Nat × Nat)) (E : Nat → Nat) (todo : List (Nat × Nat)) : Prop where
  rng : ∀ x, x < ns.length → E x < ns.length
  idem : ∀ x, E (E x) = E x
  min : ∀ R, Cg ns R → (∀ p ∈ P, R p.1 p.2) → (∀ x y, E x = E y → R x y) ∧ ∀ p ∈ todo, R p.1 p.2
  tr : ∀ p ∈ todo, p.1 < ns.length ∧ p.2 < ns.length
  rep : ∀ x, x < ns.length → (ndN ns x).kind ≠ 1 → (ndN ns (E x)).kind ≠ 1 ∧ labS (ndN ns x) (ndN ns (E x)) ∧ ∀ k, k < (ndN ns x).args.length → Gnf E todo (argN ns x k) (argN ns (E x) k)
  got : ∀ p ∈ P, Gnf E todo p.1 p.2
theorem Un.init (ns : List Nd) : Un ns [] id [] :=
  ⟨fun _ h => h, fun _ => rfl, fun R hR _ => ⟨fun x y e => (show x = y from e) ▸ hR.refl x, fun p h => (by cases h)⟩, fun p h => (by cases h), fun x _ hk => ⟨hk, labS.refl _, fun k _ R hR _ _ => hR.refl _⟩, fun p h => (by cases h)⟩
theorem Gnf.mono {E : Nat → Nat} {t t' : List (Nat × Nat)} {u v : Nat} (h : Gnf E t u v) (ht : ∀ p ∈ t, p ∈ t') : Gnf E t' u v := fun R hR hk hp => h R hR hk (fun p hq => hp p (ht p hq))
theorem Un.pair {ns : List Nd} {P : List (Nat × Nat)} {E : Nat → Nat} (h : Un ns P E []) {i j : Nat} (hi : i < ns.length) (hj : j < ns.length) : Un ns (P ++ [(i, j)]) E [(i, j)] := by
  refine ⟨h.rng, h.idem, fun R hR hp => ⟨(h.min R hR (fun p hq => hp p (by simp [hq]))).1, fun p hq => ?_⟩, fun p hq => ?_, fun x hx hk => ?_, fun p hq => ?_⟩
  · have e : p = (i, j) := by simpa using hq
    subst e
    exact hp (i, j) (by simp)
  · have e : p = (i, j) := by simpa using hq
    subst e
    exact ⟨hi, hj⟩
  · obtain ⟨h1, h2, h3⟩ := h.rep x hx hk
    exact ⟨h1, h2, fun k hk => (h3 k hk).mono (by simp)⟩
  · rcases List.mem_append.1 hq with e | e
    · exact (h.got p e).mono (by simp)
    · exact fun R _ _ ht => ht p e
theorem Un.skip {ns : List Nd} {P : List (Nat × Nat)} {E : Nat → Nat} {todo : List (Nat × Nat)} {a b : Nat} (h : Un ns P E (todo ++ [(a, b)])) (he : E a = E b) : Un ns P E todo := by
  have hm : ∀ {u v : Nat}, Gnf E (todo ++ [(a, b)]) u v → Gnf E todo u v := fun hg R hR hk hp => hg R hR hk (fun p hq => by
    rcases List.mem_append.1 hq with e | e
    · exact hp p e
    · have e1 : p = (a, b) := by simpa using e
      subst e1
      exact hk a b he)
  refine ⟨h.rng, h.idem, fun R hR hp => ⟨(h.min R hR hp).1, fun p hq => (h.min R hR hp).2 p (by simp [hq])⟩, fun p hq => h.tr p (by simp [hq]), fun x hx hk => ?_, fun p hq => hm (h.got p hq)⟩
  obtain ⟨h1, h2, h3⟩ := h.rep x hx hk
  exact ⟨h1, h2, fun k hk => hm (h3 k hk)⟩
/-- The pairs of arguments that two nodes that become one bring. -/
def newsF (ns : List Nd) (keep drop : Nat) : Nat → List (Nat × Nat)
  | 0 => []
  | k + 1 => newsF ns keep drop k ++ [(argN ns keep k, argN ns drop k)]
theorem newsF_mem {ns : List Nd} {keep drop : Nat} : ∀ {n : Nat} {p : Nat × Nat}, p ∈ newsF ns keep drop n ↔ ∃ k, k < n ∧ p = (argN ns keep k, argN ns drop k)
  | 0, p => ⟨fun h => (by cases h), fun ⟨k, h, _⟩ => absurd h (Nat.not_lt_zero _)⟩
  | n + 1, p => by
    rw [newsF, List.mem_append, newsF_mem (n := n)]
    constructor
    · rintro (⟨k, hk, e⟩ | h)
      · exact ⟨k, by omega, e⟩
      · exact ⟨n, by omega, by simpa using h⟩
    · rintro ⟨k, hk, e⟩
      by_cases hn : k < n
      · exact Or.inl ⟨k, hn, e⟩
      · have e1 : k = n := by omega
        subst e1
        exact Or.inr (by simp [e])
theorem newsF_len (ns : List Nd) (keep drop : Nat) : ∀ n, (newsF ns keep drop n).length = n
  | 0 => rfl
  | n + 1 => by rw [newsF, List.length_append, newsF_len ns keep drop n]; rfl
theorem Un.bind {ns : List Nd} (hA : GoodA ns) {P : List (Nat × Nat)} {E : Nat → Nat} {todo : List (Nat × Nat)} {a b keep drop : Nat} (h : Un ns P E (todo ++ [(a, b)])) (hkd : (keep = E a ∧ drop = E b) ∨ (keep = E b ∧ drop = E a)) (hne : keep ≠ drop)
    (hl : (ndN ns drop).kind = 1 ∨ ((ndN ns drop).kind ≠ 1 ∧ (ndN ns keep).kind ≠ 1 ∧ labS (ndN ns keep) (ndN ns drop))) : Un ns P (bindE E (drop, keep)) (todo ++ newsF ns keep drop (ndN ns drop).args.length) := by
  have hab := h.tr (a, b) (by simp)
  have hEk : E keep = keep := by rcases hkd with ⟨e, _⟩ | ⟨e, _⟩ <;> rw [e, h.idem]
  have hEd : E drop = drop := by rcases hkd with ⟨_, e⟩ | ⟨_, e⟩ <;> rw [e, h.idem]
  have hkN : keep < ns.length := by rcases hkd with ⟨e, _⟩ | ⟨e, _⟩ <;> rw [e]; exact h.rng _ hab.1; exact h.rng _ hab.2
  have hdN : drop < ns.length := by rcases hkd with ⟨_, e⟩ | ⟨_, e⟩ <;> rw [e]; exact h.rng _ hab.2; exact h.rng _ hab.1
  have hE' : ∀ x, bindE E (drop, keep) x = if E x = drop then keep else E x := fun x => by
    show (if E x = drop then E keep else E x) = _
    rw [hEk]
  have hker : ∀ x y, E x = E y → bindE E (drop, keep) x = bindE E (drop, keep) y := fun x y e => by rw [hE', hE', e]
  have hpr : bindE E (drop, keep) a = bindE E (drop, keep) b := by
    rw [hE', hE']
    rcases hkd with ⟨e1, e2⟩ | ⟨e1, e2⟩
    · rw [if_neg (fun e => hne (by rw [e1, e])), if_pos e2.symm, e1]
    · rw [if_pos e2.symm, if_neg (fun e => hne (by rw [e1, e])), e1]
  have hmono : ∀ {u v : Nat}, Gnf E (todo ++ [(a, b)]) u v → Gnf (bindE E (drop, keep)) (todo ++ newsF ns keep drop (ndN ns drop).args.length) u v := fun hg R hR hk hp => hg R hR (fun x y e => hk x y (hker x y e)) (fun p hq => by
    rcases List.mem_append.1 hq with e | e
    · exact hp p (by simp [e])
    · have e1 : p = (a, b) := by simpa using e
      subst e1
      exact hk a b hpr)
  refine ⟨fun x hx => ?_, fun x => ?_, fun R hR hp => ?_, fun p hq => ?_, fun x hx hk => ?_, fun p hq => hmono (h.got p hq)⟩
  · rw [hE']
    split
    · exact hkN
    · exact h.rng x hx
  · rw [hE' x]
    split
    · rw [hE', hEk, if_neg hne]
    · rename_i e
      rw [hE', h.idem, if_neg e]
  · obtain ⟨h1, h2⟩ := h.min R hR hp
    have hRab := h2 (a, b) (by simp)
    have hRkd : R keep drop := by
      rcases hkd with ⟨e1, e2⟩ | ⟨e1, e2⟩
      · exact hR.trans _ a _ (h1 _ _ (by rw [hEk, e1])) (hR.trans _ b _ hRab (h1 _ _ (by rw [hEd, e2])))
      · exact hR.trans _ b _ (h1 _ _ (by rw [hEk, e1])) (hR.trans _ a _ (hR.symm _ _ hRab) (h1 _ _ (by rw [hEd, e2])))
    have hto : ∀ x, R x (bindE E (drop, keep) x) := fun x => by
      rw [hE']
      split
      · rename_i e
        exact hR.trans _ drop _ (h1 _ _ (by rw [e, hEd])) (hR.symm _ _ hRkd)
      · exact h1 _ _ (h.idem x).symm
    refine ⟨fun x y e => hR.trans _ _ _ (hto x) (by rw [e]; exact hR.symm _ _ (hto y)), fun p hq => ?_⟩
    rcases List.mem_append.1 hq with e | e
    · exact h2 p (by simp [e])
    · obtain ⟨k, hk, rfl⟩ := newsF_mem.1 e
      rcases hl with hv | ⟨hd, hkk, hlab⟩
      · rw [hA.var drop hv] at hk
        exact absurd hk (Nat.not_lt_zero _)
      · exact (hR.lab keep drop hkN hdN hRkd hkk hd).2 k (by rw [hlab.2.2.2]; exact hk)
  · rcases List.mem_append.1 hq with e | e
    · exact h.tr p (by simp [e])
    · obtain ⟨k, hk, rfl⟩ := newsF_mem.1 e
      rcases hl with hv | ⟨hd, hkk, hlab⟩
      · rw [hA.var drop hv] at hk
        exact absurd hk (Nat.not_lt_zero _)
      · exact ⟨(hA.arg keep hkN k (by rw [hlab.2.2.2]; exact hk)).2, (hA.arg drop hdN k hk).2⟩
  · obtain ⟨h1, h2, h3⟩ := h.rep x hx hk
    by_cases e : E x = drop
    · have e1 : bindE E (drop, keep) x = keep := by rw [hE', if_pos e]
      rw [e] at h1 h2 h3
      rcases hl with hv | ⟨hd, hkk, hlab⟩
      · exact absurd hv h1
      · rw [e1]
        refine ⟨hkk, h2.trans hlab.symm, fun k hk R hR hkr hp => ?_⟩
        have g1 := hmono (h3 k hk) R hR hkr hp
        have g2 := hp (argN ns keep k, argN ns drop k) (by
          rw [List.mem_append]
          exact Or.inr (newsF_mem.2 ⟨k, by rw [← h2.2.2.2]; exact hk, rfl⟩))
        exact hR.trans _ _ _ g1 (hR.symm _ _ g2)
    · have e1 : bindE E (drop, keep) x = E x := by rw [hE', if_neg e]
      rw [e1]
      exact ⟨h1, h2, fun k hk => hmono (h3 k hk)⟩
/-- There is no solution. -/
def NoSol (ns : List Nd) (P : List (Nat × Nat)) : Prop := ∀ R, Cg ns R → (∀ p ∈ P, R p.1 p.2) → False
theorem Un.fail {ns : List Nd} {P : List (Nat × Nat)} {E : Nat → Nat} {todo : List (Nat × Nat)} {a b keep drop : Nat} (h : Un ns P E (todo ++ [(a, b)])) (hkd : (keep = E a ∧ drop = E b) ∨ (keep = E b ∧ drop = E a)) (hd : (ndN ns drop).kind ≠ 1) (hk : (ndN ns keep).kind ≠ 1) (hl : ¬ labS (ndN ns keep) (ndN ns drop)) : NoSol ns P := fun R hR hp => by
  obtain ⟨h1, h2⟩ := h.min R hR hp
  have hab := h.tr (a, b) (by simp)
  have hRab := h2 (a, b) (by simp)
  have ha : R a (E a) := h1 _ _ (h.idem a).symm
  have hb : R b (E b) := h1 _ _ (h.idem b).symm
  have hE : R (E a) (E b) := hR.trans _ _ _ (hR.symm _ _ ha) (hR.trans _ _ _ hRab hb)
  rcases hkd with ⟨rfl, rfl⟩ | ⟨rfl, rfl⟩
  · exact hl (hR.lab _ _ (h.rng _ hab.1) (h.rng _ hab.2) hE hk hd).1
  · exact hl (hR.lab _ _ (h.rng _ hab.2) (h.rng _ hab.1) (hR.symm _ _ hE) hk hd).1
theorem NoSol.more {ns : List Nd} {P Q : List (Nat × Nat)} (h : NoSol ns P) (hq : ∀ p ∈ P, p ∈ Q) : NoSol ns Q := fun R hR hp => h R hR (fun p hm => hp p (hq p hm))
/-- Nothing is to be done any more: what has become one is a solution, and the least. -/
theorem Un.done {ns : List Nd} {P : List (Nat × Nat)} {E : Nat → Nat} (h : Un ns P E []) : Cg ns (fun x y => E x = E y) ∧ (∀ p ∈ P, E p.1 = E p.2) ∧ ∀ R, Cg ns R → (∀ p ∈ P, R p.1 p.2) → ∀ x y, E x = E y → R x y := by
  have h3 : Eq3 (fun x y => E x = E y) := ⟨fun _ => rfl, fun _ _ e => e.symm, fun _ _ _ e f => e.trans f⟩
  have hg : ∀ {u v : Nat}, Gnf E [] u v → E u = E v := fun hg => hg (fun x y => E x = E y) h3 (fun _ _ e => e) (fun p hp => by cases hp)
  refine ⟨⟨h3, fun x y hx hy e hkx hky => ?_⟩, fun p hp => hg (h.got p hp), fun R hR hp => (h.min R hR hp).1⟩
  obtain ⟨a1, a2, a3⟩ := h.rep x hx hkx
  obtain ⟨b1, b2, b3⟩ := h.rep y hy hky
  have e' : E x = E y := e
  rw [e'] at a1 a2 a3
  refine ⟨a2.trans b2.symm, fun k hk => ?_⟩
  exact (hg (a3 k hk)).trans (hg (b3 k (by have q1 := b2.2.2.2; have q2 := a2.2.2.2; omega))).symm
/-- How many nodes stand for themselves. -/
def fixN (E : Nat → Nat) : Nat → Nat
  | 0 => 0
  | n + 1 => fixN E n + if E n = n then 1 else 0
theorem fixN_le {E E' : Nat → Nat} (h : ∀ x, E' x = x → E x = x) : ∀ n, fixN E' n ≤ fixN E n
  | 0 => Nat.le_refl _
  | n + 1 => by
    have := fixN_le h n
    rw [fixN, fixN]
    by_cases e : E' n = n
    · rw [if_pos e, if_pos (h n e)]; omega
    · rw [if_neg e]; omega
theorem fixN_lt {E E' : Nat → Nat} (h : ∀ x, E' x = x → E x = x) {d : Nat} (hd : E d = d) (hd' : E' d ≠ d) : ∀ n, d < n → fixN E' n < fixN E n
  | 0, h0 => absurd h0 (Nat.not_lt_zero _)
  | n + 1, hn => by
    rw [fixN, fixN]
    by_cases e : d = n
    · subst e
      have := fixN_le h d
      rw [if_neg hd', if_pos hd]
      omega
    · have := fixN_lt h hd hd' n (by omega)
      by_cases e2 : E' n = n
      · rw [if_pos e2, if_pos (h n e2)]; omega
      · rw [if_neg e2]; omega
theorem fixN_bind {E : Nat → Nat} {keep drop n : Nat} (hk : E keep = keep) (hd : E drop = drop) (hne : keep ≠ drop) (hn : drop < n) : fixN (bindE E (drop, keep)) n < fixN E n := by
  have hE' : ∀ x, bindE E (drop, keep) x = if E x = drop then keep else E x := fun x => by
    show (if E x = drop then E keep else E x) = _
    rw [hk]
  refine fixN_lt (fun x e => ?_) hd (by rw [hE', if_pos hd]; exact hne) n hn
  rw [hE'] at e
  split at e
  · rename_i e2
    subst e
    exact hk
  · exact e
theorem fixN_id : ∀ n, fixN id n = n
  | 0 => rfl
  | n + 1 => by rw [fixN, fixN_id n, if_pos (show id n = n from rfl)]
theorem fixN_top (E : Nat → Nat) : ∀ n, fixN E n ≤ n
  | 0 => Nat.le_refl _
  | n + 1 => by
    have := fixN_top E n
    rw [fixN]
    split <;> omega
end Go.Proofs.Ytllafbghomohhaa

/- end and ends of package solve's merge. -/
namespace Go.Proofs.Ytllafbghomohhaa
open Go.RowKit

/-- A merge at block mb: its nodes lie in an older world, its leads in a row of its own. -/
structure Mg (W0 w : World) (mb : Nat) (nv lv : Value) (ns : List Nd) (L : List Nat) : Prop where
  nd : Rn W0 nv ns
  bel : Below W0.heap.size W0 w
  blk : w.heap[mb]? = some (.cells #[nv, lv] 86)
  base : W0.heap.size ≤ mb
  l : w.ownsRow W0.heap.size 3 1 lv L.length ((ints L).map (Value.int .i64))
  ll : L.length = ns.length
section
variable {W0 w w' : World} {mb : Nat} {nv lv : Value} {ns : List Nd} {L : List Nat}
theorem Mg.lne (h : Mg W0 w mb nv lv ns L) {k : Nat} (hk : lv.ownBlock = some k) : k ≠ mb := by
  obtain ⟨cur, hc⟩ := row_obj h.l hk
  exact obj_ne hc h.blk (by decide)
/-- What keeps the two blocks keeps the merge. -/
theorem Mg.keep (h : Mg W0 w mb nv lv ns L) (hb : Below W0.heap.size W0 w') (hm : w'.heap[mb]? = w.heap[mb]?) (hk : ∀ k, lv.ownBlock = some k → w'.heap[k]? = w.heap[k]?) : Mg W0 w' mb nv lv ns L :=
  ⟨h.nd, hb, hm.trans h.blk, h.base, row_keep h.l hk, h.ll⟩
theorem Mg.next (h : Mg W0 w mb nv lv ns L) (hb : Below w.heap.size w w') : Mg W0 w' mb nv lv ns L :=
  h.keep (Below.next h.bel hb) (hb.block mb (lt_of_block h.blk)) (fun k hk => hb.block k (h.l.lt k hk).2)
theorem Mg.lsome (h : Mg W0 w mb nv lv ns L) {n : Nat} (hn : n < ns.length) : ∃ g c, lv = .slice (some ⟨g, 0, none⟩) ns.length c := by
  have hl := h.l
  rw [h.ll] at hl
  rcases hl.2 with ⟨_, h0⟩ | ⟨g, cap, cur, rfl, _⟩
  · omega
  · exact ⟨g, cap, rfl⟩
theorem Mg.lcell {g c : Nat} (h : Mg W0 w mb nv (.slice (some ⟨g, 0, none⟩) ns.length c) ns L) {n : Nat} (hn : n < ns.length) : w.cell? ⟨g, n, none⟩ = some (.int .i64 ((L.getD n 0 : Nat) : Int)) ∧ w.frozen? ⟨g, n, none⟩ = false := by
  have hl := h.l
  rw [h.ll] at hl
  exact ⟨by rw [hl.cellAt n (by omega)]; exact ints_at (by rw [h.ll]; exact hn), hl.frozenAt n⟩
theorem Mg.led {g c : Nat} (h : Mg W0 w mb nv (.slice (some ⟨g, 0, none⟩) ns.length c) ns L) (n v : Nat) : Mg W0 (w.setCell ⟨g, n, none⟩ (.int .i64 (v : Int))) mb nv (.slice (some ⟨g, 0, none⟩) ns.length c) ns (L.set n v) := by
  have hg := (h.l.lt g rfl).1
  have hne := h.lne (k := g) rfl
  refine ⟨h.nd, h.bel.setCell (p := ⟨g, n, none⟩) hg _, (Below.heap_setCell _ _ _ _ (Ne.symm hne)).trans h.blk, h.base, ?_, by simp [h.ll]⟩
  have h1 := h.l
  rw [h.ll] at h1
  have h2 := (World.ownsRow.stored h1 n (.int .i64 (v : Int))).1
  rw [ints_set] at h2
  rw [List.length_set, h.ll]
  exact h2
/-- Only what leads to what may have changed. -/
def MgL (W0 w w' : World) (mb : Nat) (nv lv : Value) (ns : List Nd) (E : Nat → Nat) : Prop := ∃ L, Mg W0 w' mb nv lv ns L ∧ Ld L E ∧ Mo (fun k => lv.ownBlock = some k) w w'
theorem MgL.trans {w1 w2 : World} {E : Nat → Nat} (hm : Mo (fun k => lv.ownBlock = some k) w w1) (h : MgL W0 w1 w2 mb nv lv ns E) : MgL W0 w w2 mb nv lv ns E := by
  obtain ⟨L, hk, hl, hm2⟩ := h
  exact ⟨L, hk, hl, hm.trans hm2 (fun x hx => Or.inl hx)⟩
theorem MgL.next {w1 w2 : World} {E : Nat → Nat} (h : MgL W0 w w1 mb nv lv ns E) (hb : Below w1.heap.size w1 w2) : MgL W0 w w2 mb nv lv ns E := by
  obtain ⟨L, hk, hl, hm⟩ := h
  exact ⟨L, hk.next hb, hl, hm.trans (Mo.ofBelow hb : Mo (fun k => lv.ownBlock = some k) w1 w2) (fun x hx => Or.inl hx)⟩
end
theorem blk2y {w : World} {q : Nat} {u0 u1 : Value} {T : TypeId} (h : w.heap[q]? = some (.cells #[u0, u1] T)) : (w.cell? ⟨q, 0, none⟩ = some u0 ∧ w.cell? ⟨q, 1, none⟩ = some u1) ∧ w.frozen? ⟨q, 0, none⟩ = false ∧ w.frozen? ⟨q, 1, none⟩ = false := by
  refine ⟨⟨?_, ?_⟩, ?_, ?_⟩ <;> simp [World.cell?, World.frozen?, h]
set_option maxRecDepth 100000 in
set_option maxHeartbeats 4000000 in
theorem send_any {W0 w : World} {mb : Nat} {nv lv : Value} {ns : List Nd} {L : List Nat} {E : Nat → Nat} (h : Mg W0 w mb nv lv ns L) (hE : Ld L E) (n : Nat) (hn : n < ns.length) :
    Calls Try.prog 55 #[.pointer (some ⟨mb, 0, none⟩), .int .i64 (n : Int)] w fun e w' => e = .returned (.int .i64 (E n : Int)) ∧ MgL W0 w w' mb nv lv ns E := by
  obtain ⟨g, c, rfl⟩ := h.lsome hn
  obtain ⟨r, M, hM, hr⟩ := hE.rank
  have hS : Hid (∃ (L : List Nat), Mg W0 w mb nv (.slice (some ⟨g, 0, none⟩) ns.length c) ns L ∧ Ld L E ∧ Lr L r ∧ Mo (fun k => (Value.slice (some ⟨g, 0, none⟩) ns.length c).ownBlock = some k) w w) := ⟨L, h, hE, hr, Mo.refl _ _⟩
  clear h hE hr hM
  go_enter Try.func55, Try.ntmps55
  go_wp2
  go_loopw [1] (fun i wr => ∃ m : Nat, m < ns.length ∧ i = .int .i64 (m : Int) ∧ Hid (E m = E n) ∧ Hid (∃ (L : List Nat), Mg W0 wr mb nv (.slice (some ⟨g, 0, none⟩) ns.length c) ns L ∧ Ld L E ∧ Lr L r ∧ Mo (fun k => (Value.slice (some ⟨g, 0, none⟩) ns.length c).ownBlock = some k) w wr)) (fun i _ => r (intOf i).toNat)
  case atStart => exact ⟨n, hn, rfl, rfl, hS⟩
  case round =>
    clear hS
    obtain ⟨m, hm, rfl, hEm, hS⟩ := hrel
    obtain ⟨L, hK, hE, hr, hM⟩ := hS.out
    have hmL : m < L.length := by rw [hK.ll]; exact hm
    obtain ⟨⟨c0, c1⟩, f0, f1⟩ := blk2y hK.blk
    obtain ⟨d0, d1⟩ := hK.lcell hm
    have zk := lt_of_cell c0
    have zg := lt_of_cell d0
    have hkg : mb ≠ g := Ne.symm (hK.lne (k := g) rfl)
    have hm2 : (m : Int) < (ns.length : Int) := by omega
    by_cases e : L.getD m 0 = m
    · have hE1 : Hid (E n = m) := hEm.out.symm.trans ((hE.fix m hmL).1 e)
      have hfin : Hid (MgL W0 w wr mb nv (.slice (some ⟨g, 0, none⟩) ns.length c) ns E) := ⟨L, hK, hE, hM⟩
      rw [e] at d0
      clear e hK hE hr hM hS hEm
      go_wp2
      go_ret
      exact ⟨ret_int (by rw [hE1.out]), hfin.out⟩
    · have h2 := hE.rng m hmL
      rw [hK.ll] at h2
      have h2i : ((L.getD m 0 : Nat) : Int) < (ns.length : Int) := by omega
      obtain ⟨p0, p1⟩ := hK.lcell h2
      have h3 := hE.rng _ (show L.getD m 0 < L.length by rw [hK.ll]; exact h2)
      rw [hK.ll] at h3
      have hK2 := hid (hK.led m (L.getD (L.getD m 0) 0))
      have hE2 := hid (hE.half hmL)
      have hr2 := hid (Lr.half hE hr hmL)
      have hM2 := hid (hM.setCell (p := ⟨g, m, none⟩) (Or.inl rfl) (.int .i64 ((L.getD (L.getD m 0) 0 : Nat) : Int)))
      have hne : ((L.getD m 0 : Nat) : Int) ≠ (m : Int) := by omega
      have hEs : Hid (E (L.getD (L.getD m 0) 0) = E n) := ((hE.st _ (by rw [hK.ll]; exact h2)).trans (hE.st m hmL)).trans hEm.out
      have hrk : Hid (r (L.getD (L.getD m 0) 0) < r m) := by
        have a1 := hr m hmL e
        by_cases e2 : L.getD (L.getD m 0) 0 = L.getD m 0
        · show _ < _
          rw [e2]; exact a1
        · have a2 := hr _ (by rw [hK.ll]; exact h2) e2
          show _ < _
          omega
      clear e hK hE hr hM hS hEm
      generalize L.getD (L.getD m 0) 0 = y at *
      generalize L.getD m 0 = x at *
      go_wp2
      go_still_tail 19, (by kernel_rfl)
      change wpList _ _ _ _ _ wr.drew
      go_wp2
      go_roundw
      case rel => exact ⟨y, h3, rfl, hEs, _, hK2.out.next (⟨rfl, rfl, rfl, Nat.le_refl _, fun _ _ => rfl⟩), hE2.out, hr2.out, ⟨hM2.out.os, hM2.out.tape, hM2.out.output, hM2.out.size, hM2.out.block⟩⟩
      case measure => simp [intOf]; exact hrk.out
set_option maxRecDepth 100000 in
set_option maxHeartbeats 4000000 in
/-- ends, of numbers that lie in the older world or in a row beside. -/
theorem sends_any {W0 w : World} {mb : Nat} {nv lv : Value} {ns : List Nd} {L : List Nat} {E : Nat → Nat} (h : Mg W0 w mb nv lv ns L) (hE : Ld L E) {v : Value} {l : List Int} (hv : ∀ w', Mo (fun k => lv.ownBlock = some k) w w' → Ri w' v l) (hr : ∀ x ∈ l, 0 ≤ x ∧ x < (ns.length : Int)) (hl : l.length ≤ 100000) :
    Calls Try.prog 46 #[.pointer (some ⟨mb, 0, none⟩), v] w fun e w' => (∃ ao c, e = .returned (.slice ao l.length c) ∧ w'.ownsRow w.heap.size 3 1 (.slice ao l.length c) l.length ((l.map (EI E)).map (Value.int .i64))) ∧ MgL W0 w w' mb nv lv ns E := by
  obtain ⟨i0, hi, hz0, hz1, hz2⟩ := info_parts infoI
  have hV := hid hv
  have hlB : Hid (∀ k, lv.ownBlock = some k → k < w.heap.size) := fun k hk => (h.l.lt k hk).2
  have hmB : Hid (mb < w.heap.size) := lt_of_block h.blk
  have hbB : Hid (W0.heap.size ≤ w.heap.size) := h.bel.size
  obtain ⟨va, vc, rfl, _⟩ := hv w (Mo.refl _ _)
  have hS : Hid (MgL W0 w w mb nv lv ns E) := ⟨L, h, hE, Mo.refl _ _⟩
  have hR := hid hr
  clear h hE hv hr
  go_enter Try.func46, Try.ntmps46
  go_wp2
  go_loopw [5, 10] (fun x i wr => ∃ (j : Nat) (ao : Option Addr) (c : Nat), j ≤ l.length ∧ i = .int .i64 (j : Int) ∧ x = .slice ao j c ∧ Hid (wr.ownsRow w.heap.size 3 1 (.slice ao j c) j (((l.take j).map (EI E)).map (Value.int .i64))) ∧ Hid (MgL W0 w wr mb nv lv ns E)) (fun _ i _ => l.length - (intOf i).toNat)
  case atStart => exact ⟨0, none, 0, by omega, rfl, rfl, World.ownsRow_nil _ _ _ _, hS⟩
  case round =>
    clear hS
    obtain ⟨j, ao, c, hj, rfl, rfl, ho, hS⟩ := hrel
    by_cases hlt : j < l.length
    · obtain ⟨L', hK, hE, hM⟩ := hS.out
      obtain ⟨va', vc', hve, hvc⟩ := hV.out wr hM
      have hve' : va = va' := by injection hve
      subst hve'
      obtain ⟨b, o, rfl, hu⟩ := hvc j hlt
      have hx := hR.out _ (getD_mem hlt)
      have hst : Hid (((l.take (j + 1)).map (EI E)).map (Value.int .i64) = ((l.take j).map (EI E)).map (Value.int .i64) ++ [.int .i64 (EI E (l.getD j 0))]) := show _ = _ by
        rw [List.take_add_one, List.map_append, List.map_append]
        simp [List.getD, hlt]
      have hzb := lt_of_cell hu
      clear hve hvc hV
      generalize l.getD j 0 = x at *
      obtain ⟨xn, rfl⟩ : ∃ xn : Nat, x = (xn : Int) := ⟨x.toNat, by omega⟩
      have hcall := send_any hK hE xn (by omega)
      have hEI : EI E (xn : Int) = ((E xn : Nat) : Int) := rfl
      rw [hEI] at hst
      have hnx : Hid (∀ w1, MgL W0 wr w1 mb nv lv ns E → w1.ownsRow w.heap.size 3 1 (.slice ao j c) j (((l.take j).map (EI E)).map (Value.int .i64)) ∧ w.heap.size ≤ w1.heap.size ∧ ∀ (w2 : World) (o : Obj), (w1.alloc o).grownBy w2 (Value.slice ao j c).ownBlock → MgL W0 w w2 mb nv lv ns E) := fun w1 hL1 => by
        obtain ⟨L1, hK1, hE1, hM1⟩ := hL1
        have hs1 := hM.size
        have hs2 := hM1.size
        have hbo := hbB.out
        refine ⟨row_keep ho.out (fun k hk => ?_), by omega, fun w2 o hg => ?_⟩
        · have h1 := ho.out.lt k hk
          exact hM1.block k h1.2 (fun e => by have := hlB.out k e; omega)
        · have hM2 := (hM.trans hM1 (fun x hx => Or.inl hx)).alloc o
          have hM3 := hM2.grown hg (fun k hk => Or.inr ((ho.out.lt k hk).1))
          have hold : ∀ k, k < w.heap.size → w2.heap[k]? = w1.heap[k]? := fun k hk => by
            rw [hg.block k (by simp; omega) (fun e => by have := (ho.out.lt k e.symm).1; omega)]
            exact Below.heap_alloc _ _ _ (by omega)
          refine ⟨L1, hK1.keep (hK1.bel.trans ?_) (hold mb hmB.out) (fun k hk => hold k (hlB.out k hk)), hE1, hM3⟩
          exact ⟨hg.os, hg.tape, hg.output, by have := hg.size; simp at this; omega, fun k hk => hold k (by omega)⟩
      clear hK hE hM hS
      go_wp2_with (first
        | (go_at_call 55; refine hcall.mono ?_; rintro e w1 ⟨rfl, hL1⟩; obtain ⟨ho1, hs1, hnn⟩ := hnx.out w1 hL1; have ho2 := World.ownsRow.alloc ho1 (.cells #[.int .i64 ((E xn : Nat) : Int)] 3))
        | (at_builtin; go_must (refine wpList_append_lies _ rfl _ _ 23 rfl w.heap.size 3 i0 (.int .i64 0) 1 8 Try.underlying23 hi hz0 hz1 hz2 rfl (by decide) _ j _ rfl ho2 ⟨w1.heap.size, 0, none⟩ 1 1 [.int .i64 ((E xn : Nat) : Int)] rfl rfl (cell_one_new w1 _ _) (by simp [Value.oneCell']) (by decide) (by unfold maxLen; omega) (by omega) (by simp; omega) _ rfl ?_; intro g cap w2 hown2 hg2 hat2 hlt2)))
      go_roundw
      case rel => exact ⟨j + 1, _, cap, by omega, by go_num, rfl, (show World.ownsRow _ _ _ _ _ _ _ by rw [hst.out]; exact hown2), hnn w2 _ hg2⟩
      case measure => simp [intOf]; omega
    · obtain rfl : j = l.length := by omega
      have ho' := hid ho.out
      have hS' := hid hS.out
      clear ho hS
      go_wp2
      go_ret
      have h9 := ho'.out
      rw [List.take_length] at h9
      exact ⟨⟨_, _, rfl, h9⟩, hS'.out⟩
end Go.Proofs.Ytllafbghomohhaa

/- Nodes labelled alike, as the statements and the reference ask it. No program stands in it. -/
namespace Go.Proofs.Ytllafbghomohhaa
open Go.RowKit

/-- Are two nodes labelled alike, as layer 5's statements ask it? -/
def ndL (a b : Nd) : Bool := decide (a.kind = b.kind) && decide (a.name.toList = b.name.toList) && decide (a.num = b.num) && decide (a.args.length = b.args.length)
theorem str_eq {a b : ByteArray} (h : a.toList = b.toList) : a = b := by
  rw [ByteArray.toList_eq, ByteArray.toList_eq] at h
  cases a
  cases b
  simp at h
  rw [h]
theorem ndL_of {g : Gf} {i j : Int} (h : labE g i j) : ndL (g.nd i) (g.nd j) = true := by
  simp only [ndL, Bool.and_eq_true, decide_eq_true_eq]
  exact ⟨⟨⟨h.1, by rw [h.2.1]⟩, h.2.2.1⟩, h.2.2.2.1⟩
theorem labE_of {g : Gf} {i j : Nat} (h : ndL (g.nodes.getD i nd0) (g.nodes.getD j nd0) = true) (hk : (g.nodes.getD i nd0).kind ≠ 1) : labE g (i : Int) (j : Int) := by
  simp only [ndL, Bool.and_eq_true, decide_eq_true_eq] at h
  obtain ⟨⟨⟨h1, h2⟩, h3⟩, h4⟩ := h
  exact ⟨h1, str_eq h2, h3, h4, fun e => absurd e hk⟩
end Go.Proofs.Ytllafbghomohhaa

/- What one of package solve's merge wants. -/
namespace Go.Proofs.Ytllafbghomohhaa
open Go.RowKit

/-- The cells of pairs. -/
def pcells (l : List (Nat × Nat)) : List Value := l.flatMap fun p => [.int .i64 (p.1 : Int), .int .i64 (p.2 : Int)]
theorem pcells_snoc (l : List (Nat × Nat)) (p : Nat × Nat) : pcells (l ++ [p]) = pcells l ++ [.int .i64 (p.1 : Int), .int .i64 (p.2 : Int)] := by simp [pcells]
theorem pcells_len : ∀ l : List (Nat × Nat), (pcells l).length = l.length * 2
  | [] => rfl
  | p :: r => by
    show (_ :: _ :: pcells r).length = _
    rw [List.length_cons, List.length_cons, pcells_len r, List.length_cons]
    omega
theorem infoPr : (Try.prog.info? 48).map (fun i => (i.zero, i.size, i.bytes)) = some (some (.agg #[.int .i64 0, .int .i64 0]), 2, 16) := by kernel_rfl
/-- The last pair of a row, and the row without it. -/
theorem last_pair {w : World} {B g cap : Nat} {rest : List (Nat × Nat)} {a b : Nat} (h : w.ownsRow B 48 2 (.slice (some ⟨g, 0, none⟩) (rest.length + 1) cap) (rest.length + 1) (pcells (rest ++ [(a, b)]))) : w.cell? ⟨g, rest.length * 2, none⟩ = some (.int .i64 (a : Int)) ∧ w.cell? ⟨g, rest.length * 2 + 1, none⟩ = some (.int .i64 (b : Int)) ∧ w.ownsRow B 48 2 (.slice (some ⟨g, 0, none⟩) rest.length cap) rest.length (pcells rest) ∧ rest.length + 1 ≤ cap ∧ cap ≤ maxLen ∧ B ≤ g ∧ g < w.heap.size := by
  have hl := pcells_len rest
  rw [pcells_snoc] at h
  have c0 := h.cellAt (rest.length * 2) (by omega)
  have c1 := h.cellAt (rest.length * 2 + 1) (by omega)
  have hlt := h.lt g rfl
  refine ⟨by rw [c0, List.getElem?_append_right (by omega), hl]; simp, by rw [c1, List.getElem?_append_right (by omega), hl]; simp, ⟨hl, Or.inr ?_⟩, ?_⟩
  · rcases h.2 with ⟨e, _⟩ | ⟨g', cap', cur, e, hb, hg, h1, h2, h3, h4⟩
    · cases e
    · injection e with e1 e2 e3
      injection e1 with e1
      injection e1 with e1 _ _
      subst e1 e3
      refine ⟨g, cap, cur, rfl, hb, hg, by omega, h2, h3, ?_⟩
      have h5 := congrArg (List.take (rest.length * 2)) h4
      have h6 : (pcells rest ++ [Value.int .i64 ((a, b).1 : Int), .int .i64 ((a, b).2 : Int)]).take (rest.length * 2) = pcells rest := by
        rw [← hl, List.take_left]
      rw [List.take_take, h6, Nat.min_eq_left (by omega)] at h5
      exact h5
  · rcases h.2 with ⟨e, _⟩ | ⟨g', cap', cur, e, hb, hg, h1, h2, h3, h4⟩
    · cases e
    · injection e with e1 e2 e3
      subst e3
      exact ⟨h1, h2, hlt.1, hlt.2⟩
def lenOf : Value → Nat
  | .slice _ n _ => n
  | _ => 0
theorem Mo.undr {S : Nat → Prop} {w w' : World} {n : Nat} (h : Mo S (w.drewN n) w') : Mo S w w' := ⟨h.os, h.tape, h.output, h.size, h.block⟩
/-- How many leads are their own, read off the memory. -/
noncomputable def lfix (g : Nat) (w : World) : Nat → Nat
  | 0 => 0
  | n + 1 => lfix g w n + @ite _ (w.cell? ⟨g, n, none⟩ = some (.int .i64 (n : Int))) (Classical.propDecidable _) 1 0
theorem lfix_is {W0 w : World} {mb : Nat} {nv : Value} {g c : Nat} {ns : List Nd} {L : List Nat} {E : Nat → Nat} (h : Mg W0 w mb nv (.slice (some ⟨g, 0, none⟩) ns.length c) ns L) (hE : Ld L E) : ∀ n, n ≤ ns.length → lfix g w n = fixN E n
  | 0, _ => rfl
  | n + 1, hn => by
    rw [lfix, fixN, lfix_is h hE n (by omega)]
    have hc := (h.lcell (n := n) (by omega)).1
    have hf := hE.fix n (by rw [h.ll]; omega)
    by_cases e : E n = n
    · rw [if_pos e, if_pos (by rw [hc, hf.2 e])]
    · rw [if_neg e, if_neg (fun h2 => e (hf.1 (by
        rw [hc] at h2
        injection h2 with h2
        injection h2 with _ h2
        omega)))]
/-- A node lies so in a world. -/
structure NdW (w' : World) (b o x : Nat) (aa : Option Addr) (ac : Nat) (y : Nd) : Prop where
  k : w'.cell? ⟨b, o + x * 4, none⟩ = some (.int .i64 y.kind)
  n : w'.cell? ⟨b, o + x * 4 + 1, none⟩ = some (.string y.name)
  m : w'.cell? ⟨b, o + x * 4 + 2, none⟩ = some (.int .i64 y.num)
  s : w'.cell? ⟨b, o + x * 4 + 3, none⟩ = some (.slice aa y.args.length ac)
  z : b < w'.heap.size
  a : ∀ k, k < y.args.length → ∃ b' o', aa = some ⟨b', o', none⟩ ∧ w'.cell? ⟨b', o' + k, none⟩ = some (.int .i64 (y.args.getD k 0)) ∧ b' < w'.heap.size
/-- The cells of a merge's node. -/
theorem Mg.node {W0 w : World} {mb : Nat} {nv lv : Value} {ns : List Nd} {L : List Nat} (h : Mg W0 w mb nv lv ns L) {x : Nat} (hx : x < ns.length) : ∃ b o c aa ac, nv = .slice (some ⟨b, o, none⟩) ns.length c ∧ ∀ w', Below W0.heap.size W0 w' → NdW w' b o x aa ac (ndN ns x) := by
  obtain ⟨ao, c, rfl, hn⟩ := h.nd
  obtain ⟨b, o, av, rfl, hnd⟩ := hn x hx
  obtain ⟨aa, ac, rfl, _⟩ := hnd.2.2.2.2
  refine ⟨b, o, c, aa, ac, rfl, fun w' hb => ?_⟩
  obtain ⟨h0, h1, h2, h3, h4⟩ := hnd.below hb
  obtain ⟨aa', ac', e, h5⟩ := h4
  injection e with e1 _ _
  subst e1
  refine ⟨h0, h1, h2, h3, lt_of_cell h0, fun k hk => ?_⟩
  obtain ⟨b', o', e, h6⟩ := h5 k hk
  exact ⟨b', o', e, h6, lt_of_cell h6⟩
set_option maxRecDepth 100000 in
set_option maxHeartbeats 2000000 in
theorem unlike_no (k : Int) (n : ByteArray) (m : Int) (a1 a2 : Option Addr) (l c1 c2 : Nat) (w : World) :
    Calls Try.prog 63 #[.agg #[.int .i64 k, .string n, .int .i64 m, .slice a1 l c1], .agg #[.int .i64 k, .string n, .int .i64 m, .slice a2 l c2]] w fun e w' => e = .returned (.bool false) ∧ Below w.heap.size w w' := by
  go_enter Try.func63, Try.ntmps63
  go_wp2
  go_ret
  exact ⟨rfl, (below_alloc w _).alloc (by simp) _⟩
set_option maxRecDepth 100000 in
set_option maxHeartbeats 4000000 in
theorem unlike_yes (k k' : Int) (n n' : ByteArray) (m m' : Int) (a1 a2 : Option Addr) (l l' c1 c2 : Nat) (w : World) (h : ¬ (k = k' ∧ n = n' ∧ m = m' ∧ l = l')) :
    Calls Try.prog 63 #[.agg #[.int .i64 k, .string n, .int .i64 m, .slice a1 l c1], .agg #[.int .i64 k', .string n', .int .i64 m', .slice a2 l' c2]] w fun e w' => e = .returned (.bool true) ∧ Below w.heap.size w w' := by
  have hb := hid ((below_alloc w (.cells #[.int .i64 k, .string n, .int .i64 m, .slice a1 l c1] 56)).alloc (by simp) (.cells #[.int .i64 k', .string n', .int .i64 m', .slice a2 l' c2] 56))
  by_cases e1 : k = k'
  · subst e1
    by_cases e2 : n = n'
    · subst e2
      by_cases e3 : m = m'
      · subst e3
        have e4 : l ≠ l' := fun e => h ⟨rfl, rfl, rfl, e⟩
        have e5 : ((l : Int) == (l' : Int)) = false := beq_eq_false_iff_ne.2 (by omega)
        have e6 : ((l : Int) != (l' : Int)) = true := by rw [bne, e5]; rfl
        clear h
        go_enter Try.func63, Try.ntmps63
        go_wp2
        go_ret
        exact ⟨by first | rfl | (simp; omega), hb.out⟩
      · have e5 : (m == m') = false := beq_eq_false_iff_ne.2 e3
        have e6 : (m != m') = true := by simpa using e3
        clear h
        go_enter Try.func63, Try.ntmps63
        go_wp2
        go_ret
        exact ⟨by first | rfl | simp [e3], hb.out⟩
    · have e5 : (n.toList == n'.toList) = false := by
        cases he : n.toList == n'.toList with
        | false => rfl
        | true => exact absurd (str_eq (by simpa using he)) e2
      clear h
      go_enter Try.func63, Try.ntmps63
      go_wp2
      go_ret
      exact ⟨by first | rfl | simp [e5], hb.out⟩
  · have e5 : (k == k') = false := beq_eq_false_iff_ne.2 e1
    have e6 : (k != k') = true := by simpa using e1
    clear h
    go_enter Try.func63, Try.ntmps63
    go_wp2
    go_ret
    exact ⟨by first | rfl | simp [e1], hb.out⟩
end Go.Proofs.Ytllafbghomohhaa
