/- The reference of layer 4: Check. -/
import Derived.Deep.RegionHeld3
import Derived.Deep.LoopGhost
import Derived.Deep.QuietTactic
import Derived.BigQuiet
import Derived.Test.YtlibjdilicfcdaaGreatDoorRows
import Derived.ProofKit
import Derived.SizedLaws
import Derived.OpenShut
import Derived.ShutString
import Derived.Deep.Strs
import Derived.OrdersIn
import Derived.OwnWalkIn
import Derived.RangeFuncCalls
import Derived.Test.YtlibjdilicfcdaaGreatDoornb03Z
import Derived.Test.YtlibjdilicfcdaaGreatDoornb00Z
import Derived.Test.YtlibjdilicfcdaaGreatDoornb02Z
namespace Go.Proofs.YtlibjdilicfcdaaGreatDoor
set_option maxRecDepth 100000
open Go.RowKit
theorem box_set0 {w : World} {q : Nat} {u0 u1 u2 u3 v0 v1 v2 v3 : Value} {T : TypeId} (h : w.heap[q]? = some (.cells #[u0, u1, u2, u3] T)) :
    ((((w.setCell ⟨q, 0, none⟩ v0).setCell ⟨q, 1, none⟩ v1).setCell ⟨q, 2, none⟩ v2).setCell ⟨q, 3, none⟩ v3).heap[q]? = some (.cells #[v0, v1, v2, v3] T) := by
  have h0 := heap_setCell_same w q 0 _ _ v0 h
  have h1 := heap_setCell_same _ q 1 _ _ v1 h0
  have h2 := heap_setCell_same _ q 2 _ _ v2 h1
  exact heap_setCell_same _ q 3 _ _ v3 h2
theorem set4_below {W w : World} {q : Nat} {v0 v1 v2 v3 : Value} (h : Below W.heap.size W w) (hq : W.heap.size ≤ q) :
    Below W.heap.size W ((((w.setCell ⟨q, 0, none⟩ v0).setCell ⟨q, 1, none⟩ v1).setCell ⟨q, 2, none⟩ v2).setCell ⟨q, 3, none⟩ v3) :=
  (((h.setCell hq _).setCell hq _).setCell hq _).setCell hq _
end Go.Proofs.YtlibjdilicfcdaaGreatDoor

namespace Go.Proofs.YtlibjdilicfcdaaGreatDoor
set_option maxRecDepth 100000
open Go.ChangeShapes Go.WideShapes Go.ChangeAt Go.RowKit Go.Deep
theorem own : ownKnob Tryz.prog.godebug = none := by kernel_rfl
theorem laidOut : laidOutB Tryz.prog = true := by kernel_rfl
theorem cellsI : Tryz.prog.cellsOf 3 = 1 := by kernel_rfl
theorem cellsS : Tryz.prog.cellsOf 9 = 1 := by kernel_rfl
theorem cellsIs : Tryz.prog.cellsOf 23 = 1 := by kernel_rfl
theorem cellsNs : Tryz.prog.cellsOf 22 = 1 := by kernel_rfl
theorem cellsN : Tryz.prog.cellsOf 58 = 4 := by kernel_rfl
theorem cellsG : Tryz.prog.cellsOf 25 = 2 := by kernel_rfl
theorem ints_of_cells {H : Type} {enc : TypeId × Value → H} {W : World} {fuel : Nat} {u : Value} {x : DataW H × List MemPlace} (h : DataW.trod enc Tryz.prog W 0 (fun _ => true) true fuel 23 [u] = some x) :
    ∃ l : List Int, Ri W u l ∧ l.length ≤ 9223372036854775807 := by
  rcases open_ints Tryz.underlying23 Tryz.underlying3 cellsI h with ⟨hcs, hx⟩ | ⟨a, len, cap, zs, hcs, _, hl, hm, hz, hx, hcell, hwz⟩
  · simp at hcs
    subst hcs
    exact ⟨[], Ri.nil _, by simp⟩
  · simp at hcs
    subst hcs
    simp only [if_true] at hz
    have hlen : (zs.take len).length = len := by simp; omega
    refine ⟨zs.take len, ⟨some a, cap, by rw [hlen], fun j hj => ?_⟩, by rw [hlen]; unfold maxLen at hm; omega⟩
    rw [hlen] at hj
    obtain ⟨b, off, spot⟩ := a
    have hspot : spot = none := by simpa [Addr.add] using World.cell?_spot (hcell 0 (by omega))
    subst hspot
    refine ⟨b, off, rfl, ?_⟩
    have := hcell j (by omega)
    rw [add_plain] at this
    rw [this]
    simp [List.getD, hj]
theorem node_of_cells {H : Type} {enc : TypeId × Value → H} {W : World} {fuel : Nat} {cs : List Value} {x : DataW H × List MemPlace} (h : DataW.trod enc Tryz.prog W 0 (fun _ => true) true fuel 58 cs = some x) :
    ∃ (n : Nd) (av : Value), cs = [.int .i64 n.kind, .string n.name, .int .i64 n.num, av] ∧ Ri W av n.args ∧ n.name.size ≤ 9223372036854775807 := by
  obtain ⟨xs, n, _, hx, hl, hlen, hf⟩ := DataW.trod_struct Tryz.underlying58 h
  rw [cellsN] at hl
  match cs, hl with
  | [c0, c1, c2, c3], _ =>
    match xs, hlen with
    | [y0, y1, y2, y3], _ =>
      have h0 := hf 0 _ rfl
      have h1 := hf 1 _ rfl
      have h2 := hf 2 _ rfl
      have h3 := hf 3 _ rfl
      simp [cellsI] at h0 h2
      simp [cellsS] at h1
      simp [cellsIs] at h3
      obtain ⟨a0, e0, _, w0⟩ := DataW.trod_int Tryz.underlying3 h0
      obtain ⟨a1, e1, _, w1⟩ := DataW.trod_string Tryz.underlying9 h1
      obtain ⟨a2, e2, _, w2⟩ := DataW.trod_int Tryz.underlying3 h2
      obtain ⟨l, hr, _⟩ := ints_of_cells h3
      simp at e0 e1 e2
      subst e0 e1 e2
      exact ⟨⟨a0, a1, a2, l⟩, c3, rfl, hr, by unfold maxLen at w1; exact w1⟩
theorem nodes_of_cells {H : Type} {enc : TypeId × Value → H} {W : World} {fuel : Nat} {u : Value} {x : DataW H × List MemPlace} (h : DataW.trod enc Tryz.prog W 0 (fun _ => true) true fuel 22 [u] = some x) :
    ∃ l : List Nd, Rn W u l ∧ (∀ n ∈ l, n.name.size ≤ 9223372036854775807) ∧ l.length ≤ 9223372036854775807 := by
  rcases Go.Deep.open_slice Tryz.underlying22 h with ⟨hcs, _⟩ | ⟨ad, len, cap, m, n, D, Pl, hcs, _, hl, hm, hmm, _, hel⟩
  · simp at hcs
    subst hcs
    exact ⟨[], Rn.nil _, by simp, by simp⟩
  · simp at hcs
    subst hcs
    simp only [if_true] at hmm
    rw [cellsN] at hel
    have each : ∀ i, ∃ (n : Nd) (av : Value), i < len → (Ri W av n.args ∧ n.name.size ≤ 9223372036854775807) ∧ W.cells? 0 (ad.add (i * 4)) 4 = some [.int .i64 n.kind, .string n.name, .int .i64 n.num, av] := fun i => by
      by_cases hi : i < len
      · obtain ⟨cs', hc, ht⟩ := hel i (by omega)
        obtain ⟨n, av, rfl, h1, h2⟩ := node_of_cells ht
        exact ⟨n, av, fun _ => ⟨⟨h1, h2⟩, hc⟩⟩
      · exact ⟨nd0, .nilIface, fun h => absurd h hi⟩
    obtain ⟨ns, hns⟩ : ∃ ns : Nat → Nd, ∀ i, ∃ av : Value, i < len → (Ri W av (ns i).args ∧ (ns i).name.size ≤ 9223372036854775807) ∧ W.cells? 0 (ad.add (i * 4)) 4 = some [.int .i64 (ns i).kind, .string (ns i).name, .int .i64 (ns i).num, av] :=
      ⟨fun i => Classical.choose (each i), fun i => Classical.choose_spec (each i)⟩
    refine ⟨(List.range len).map ns, ⟨some ad, cap, by simp, fun j hj => ?_⟩, fun n hn => ?_, by simp; unfold maxLen at hm; omega⟩
    · have hj' : j < len := by simpa using hj
      obtain ⟨b, off, spot⟩ := ad
      obtain ⟨av, hav⟩ := hns j
      obtain ⟨⟨h1, h2⟩, h3⟩ := hav hj'
      have hcj := (World.cells?_some h3).2.2
      have hspot : spot = none := by
        obtain ⟨av0, hav0⟩ := hns 0
        have := (World.cells?_some (hav0 (by omega)).2).2.2 0 (by omega)
        simp at this
        simpa [Addr.add] using World.cell?_spot this
      subst hspot
      have e : ∀ i, ((⟨b, off, none⟩ : Addr).add (j * 4)).add i = ⟨b, off + j * 4 + i, none⟩ := fun i => by rw [add_plain, add_plain]
      have hg : ((List.range len).map ns).getD j nd0 = ns j := by simp [List.getD, hj']
      refine ⟨b, off, av, rfl, ?_⟩
      rw [hg]
      refine ⟨?_, ?_, ?_, ?_, h1⟩
      · have := hcj 0 (by omega); rw [e] at this; simpa using this
      · have := hcj 1 (by omega); rw [e] at this; simpa using this
      · have := hcj 2 (by omega); rw [e] at this; simpa using this
      · have := hcj 3 (by omega); rw [e] at this; simpa using this
    · obtain ⟨i, hi, rfl⟩ := List.mem_map.1 hn
      obtain ⟨av, hav⟩ := hns i
      exact (hav (List.mem_range.1 hi)).1.2
theorem graph_of_cells {H : Type} {enc : TypeId × Value → H} {W : World} {fuel : Nat} {cs : List Value} {x : DataW H × List MemPlace} (h : DataW.trod enc Tryz.prog W 0 (fun _ => true) true fuel 25 cs = some x) :
    ∃ (nv rv : Value) (g : Gf), cs = [nv, rv] ∧ Gr W nv rv g ∧ Sized g := by
  obtain ⟨xs, n, _, hx, hl, hlen, hf⟩ := DataW.trod_struct Tryz.underlying25 h
  rw [cellsG] at hl
  match cs, hl with
  | [c0, c1], _ =>
    match xs, hlen with
    | [y0, y1], _ =>
      have h0 := hf 0 _ rfl
      have h1 := hf 1 _ rfl
      simp [cellsNs] at h0
      simp [cellsIs] at h1
      obtain ⟨ns, hr, hs, _⟩ := nodes_of_cells h0
      obtain ⟨l, hr', _⟩ := ints_of_cells h1
      exact ⟨c0, c1, ⟨ns, l⟩, rfl, ⟨hr, hr'⟩, hs⟩
theorem graph_of {H : Type} {enc : TypeId × Value → H} {W : World} {base : Nat} {u : Value} {d : DataW H} {p : List MemPlace} (hv : Value.okWide Tryz.prog W .any base 25 u) (h : DataW.Trod enc Tryz.prog W 0 (fun _ => true) true 25 u d p) :
    ∃ (nv rv : Value) (g : Gf), u = .agg #[nv, rv] ∧ Gr W nv rv g ∧ Sized g := by
  obtain ⟨cs, rfl, hsz⟩ := okWide_struct Tryz.underlying25 hv
  obtain ⟨fuel, hf⟩ := h
  have hf' : DataW.trod enc Tryz.prog W 0 (fun _ => true) true fuel 25 cs.toList = some (d, p) := by simpa [Value.cells] using hf
  obtain ⟨nv, rv, g, hc, h1, h2⟩ := graph_of_cells hf'
  refine ⟨nv, rv, g, ?_, h1, h2⟩
  congr 1
  exact Array.toList_inj.1 (by simpa using hc)
end Go.Proofs.YtlibjdilicfcdaaGreatDoor

namespace Go.Proofs.YtlibjdilicfcdaaGreatDoor
set_option maxRecDepth 100000
open Go.RowKit
def ndN (ns : List Nd) (x : Nat) : Nd := ns.getD x nd0
def argN (ns : List Nd) (x k : Nat) : Nat := ((ndN ns x).args.getD k 0).toNat
def labS (m n : Nd) : Prop := m.kind = n.kind ∧ m.name = n.name ∧ m.num = n.num ∧ m.args.length = n.args.length
theorem labS.symm {m n : Nd} (h : labS m n) : labS n m := ⟨h.1.symm, h.2.1.symm, h.2.2.1.symm, h.2.2.2.symm⟩
theorem labS.trans {l m n : Nd} (h : labS l m) (k : labS m n) : labS l n := ⟨h.1.trans k.1, h.2.1.trans k.2.1, h.2.2.1.trans k.2.2.1, h.2.2.2.trans k.2.2.2⟩
theorem labS.refl (m : Nd) : labS m m := ⟨rfl, rfl, rfl, rfl⟩
structure Eq3 (R : Nat → Nat → Prop) : Prop where
  refl : ∀ x, R x x
  symm : ∀ x y, R x y → R y x
  trans : ∀ x y z, R x y → R y z → R x z
structure Cg (ns : List Nd) (R : Nat → Nat → Prop) : Prop extends Eq3 R where
  lab : ∀ x y, x < ns.length → y < ns.length → R x y → (ndN ns x).kind ≠ 1 → (ndN ns y).kind ≠ 1 → labS (ndN ns x) (ndN ns y) ∧ ∀ k, k < (ndN ns x).args.length → R (argN ns x k) (argN ns y k)
def Gnf (E : Nat → Nat) (todo : List (Nat × Nat)) (u v : Nat) : Prop := ∀ R, Eq3 R → (∀ x y, E x = E y → R x y) → (∀ p ∈ todo, R p.1 p.2) → R u v
structure GoodA (ns : List Nd) : Prop where
  arg : ∀ x, x < ns.length → ∀ k, k < (ndN ns x).args.length → 0 ≤ (ndN ns x).args.getD k 0 ∧ argN ns x k < ns.length
  var : ∀ x, (ndN ns x).kind = 1 → (ndN ns x).args = []
  few : ∀ x, (ndN ns x).args.length ≤ 8
structure Un (ns : List Nd) (P : List (Nat × Nat)) (E : Nat → Nat) (todo : List (Nat × Nat)) : Prop where
  rng : ∀ x, x < ns.length → E x < ns.length
  idem : ∀ x, E (E x) = E x
  min : ∀ R, Cg ns R → (∀ p ∈ P, R p.1 p.2) → (∀ x y, E x = E y → R x y) ∧ ∀ p ∈ todo, R p.1 p.2
  tr : ∀ p ∈ todo, p.1 < ns.length ∧ p.2 < ns.length
  rep : ∀ x, x < ns.length → (ndN ns x).kind ≠ 1 → (ndN ns (E x)).kind ≠ 1 ∧ labS (ndN ns x) (ndN ns (E x)) ∧ ∀ k, k < (ndN ns x).args.length → Gnf E todo (argN ns x k) (argN ns (E x) k)
  got : ∀ p ∈ P, Gnf E todo p.1 p.2
theorem Un.init (ns : List Nd) : Un ns [] id [] :=
  ⟨fun _ h => h, fun _ => rfl, fun R hR _ => ⟨fun x y e => (show x = y from e) ▸ hR.refl x, fun p h => (by cases h)⟩, fun p h => (by cases h), fun x _ hk => ⟨hk, labS.refl _, fun k _ R hR _ _ => hR.refl _⟩, fun p h => (by cases h)⟩
theorem Gnf.mono {E : Nat → Nat} {t t' : List (Nat × Nat)} {u v : Nat} (h : Gnf E t u v) (ht : ∀ p ∈ t, p ∈ t') : Gnf E t' u v := fun R hR hk hp => h R hR hk (fun p hq => hp p (ht p hq))
theorem Un.pair {ns : List Nd} {P : List (Nat × Nat)} {E : Nat → Nat} (h : Un ns P E []) {i j : Nat} (hi : i < ns.length) (hj : j < ns.length) : Un ns (P ++ [(i, j)]) E [(i, j)] := by
  refine ⟨h.rng, h.idem, fun R hR hp => ⟨(h.min R hR (fun p hq => hp p (by simp [hq]))).1, fun p hq => ?_⟩, fun p hq => ?_, fun x hx hk => ?_, fun p hq => ?_⟩
  · have e : p = (i, j) := by simpa using hq
    subst e
    exact hp (i, j) (by simp)
  · have e : p = (i, j) := by simpa using hq
    subst e
    exact ⟨hi, hj⟩
  · obtain ⟨h1, h2, h3⟩ := h.rep x hx hk
    exact ⟨h1, h2, fun k hk => (h3 k hk).mono (by simp)⟩
  · rcases List.mem_append.1 hq with e | e
    · exact (h.got p e).mono (by simp)
    · exact fun R _ _ ht => ht p e
theorem Un.skip {ns : List Nd} {P : List (Nat × Nat)} {E : Nat → Nat} {todo : List (Nat × Nat)} {a b : Nat} (h : Un ns P E (todo ++ [(a, b)])) (he : E a = E b) : Un ns P E todo := by
  have hm : ∀ {u v : Nat}, Gnf E (todo ++ [(a, b)]) u v → Gnf E todo u v := fun hg R hR hk hp => hg R hR hk (fun p hq => by
    rcases List.mem_append.1 hq with e | e
    · exact hp p e
    · have e1 : p = (a, b) := by simpa using e
      subst e1
      exact hk a b he)
  refine ⟨h.rng, h.idem, fun R hR hp => ⟨(h.min R hR hp).1, fun p hq => (h.min R hR hp).2 p (by simp [hq])⟩, fun p hq => h.tr p (by simp [hq]), fun x hx hk => ?_, fun p hq => hm (h.got p hq)⟩
  obtain ⟨h1, h2, h3⟩ := h.rep x hx hk
  exact ⟨h1, h2, fun k hk => hm (h3 k hk)⟩
def newsF (ns : List Nd) (keep drop : Nat) : Nat → List (Nat × Nat)
  | 0 => []
  | k + 1 => newsF ns keep drop k ++ [(argN ns keep k, argN ns drop k)]
theorem newsF_mem {ns : List Nd} {keep drop : Nat} : ∀ {n : Nat} {p : Nat × Nat}, p ∈ newsF ns keep drop n ↔ ∃ k, k < n ∧ p = (argN ns keep k, argN ns drop k)
  | 0, p => ⟨fun h => (by cases h), fun ⟨k, h, _⟩ => absurd h (Nat.not_lt_zero _)⟩
  | n + 1, p => by
    rw [newsF, List.mem_append, newsF_mem (n := n)]
    constructor
    · rintro (⟨k, hk, e⟩ | h)
      · exact ⟨k, by omega, e⟩
      · exact ⟨n, by omega, by simpa using h⟩
    · rintro ⟨k, hk, e⟩
      by_cases hn : k < n
      · exact Or.inl ⟨k, hn, e⟩
      · have e1 : k = n := by omega
        subst e1
        exact Or.inr (by simp [e])
theorem newsF_len (ns : List Nd) (keep drop : Nat) : ∀ n, (newsF ns keep drop n).length = n
  | 0 => rfl
  | n + 1 => by rw [newsF, List.length_append, newsF_len ns keep drop n]; rfl
theorem Un.bind {ns : List Nd} (hA : GoodA ns) {P : List (Nat × Nat)} {E : Nat → Nat} {todo : List (Nat × Nat)} {a b keep drop : Nat} (h : Un ns P E (todo ++ [(a, b)])) (hkd : (keep = E a ∧ drop = E b) ∨ (keep = E b ∧ drop = E a)) (hne : keep ≠ drop)
    (hl : (ndN ns drop).kind = 1 ∨ ((ndN ns drop).kind ≠ 1 ∧ (ndN ns keep).kind ≠ 1 ∧ labS (ndN ns keep) (ndN ns drop))) : Un ns P (bindE E (drop, keep)) (todo ++ newsF ns keep drop (ndN ns drop).args.length) := by
  have hab := h.tr (a, b) (by simp)
  have hEk : E keep = keep := by rcases hkd with ⟨e, _⟩ | ⟨e, _⟩ <;> rw [e, h.idem]
  have hEd : E drop = drop := by rcases hkd with ⟨_, e⟩ | ⟨_, e⟩ <;> rw [e, h.idem]
  have hkN : keep < ns.length := by rcases hkd with ⟨e, _⟩ | ⟨e, _⟩ <;> rw [e]; exact h.rng _ hab.1; exact h.rng _ hab.2
  have hdN : drop < ns.length := by rcases hkd with ⟨_, e⟩ | ⟨_, e⟩ <;> rw [e]; exact h.rng _ hab.2; exact h.rng _ hab.1
  have hE' : ∀ x, bindE E (drop, keep) x = if E x = drop then keep else E x := fun x => by
    show (if E x = drop then E keep else E x) = _
    rw [hEk]
  have hker : ∀ x y, E x = E y → bindE E (drop, keep) x = bindE E (drop, keep) y := fun x y e => by rw [hE', hE', e]
  have hpr : bindE E (drop, keep) a = bindE E (drop, keep) b := by
    rw [hE', hE']
    rcases hkd with ⟨e1, e2⟩ | ⟨e1, e2⟩
    · rw [if_neg (fun e => hne (by rw [e1, e])), if_pos e2.symm, e1]
    · rw [if_pos e2.symm, if_neg (fun e => hne (by rw [e1, e])), e1]
  have hmono : ∀ {u v : Nat}, Gnf E (todo ++ [(a, b)]) u v → Gnf (bindE E (drop, keep)) (todo ++ newsF ns keep drop (ndN ns drop).args.length) u v := fun hg R hR hk hp => hg R hR (fun x y e => hk x y (hker x y e)) (fun p hq => by
    rcases List.mem_append.1 hq with e | e
    · exact hp p (by simp [e])
    · have e1 : p = (a, b) := by simpa using e
      subst e1
      exact hk a b hpr)
  refine ⟨fun x hx => ?_, fun x => ?_, fun R hR hp => ?_, fun p hq => ?_, fun x hx hk => ?_, fun p hq => hmono (h.got p hq)⟩
  · rw [hE']
    split
    · exact hkN
    · exact h.rng x hx
  · rw [hE' x]
    split
    · rw [hE', hEk, if_neg hne]
    · rename_i e
      rw [hE', h.idem, if_neg e]
  · obtain ⟨h1, h2⟩ := h.min R hR hp
    have hRab := h2 (a, b) (by simp)
    have hRkd : R keep drop := by
      rcases hkd with ⟨e1, e2⟩ | ⟨e1, e2⟩
      · exact hR.trans _ a _ (h1 _ _ (by rw [hEk, e1])) (hR.trans _ b _ hRab (h1 _ _ (by rw [hEd, e2])))
      · exact hR.trans _ b _ (h1 _ _ (by rw [hEk, e1])) (hR.trans _ a _ (hR.symm _ _ hRab) (h1 _ _ (by rw [hEd, e2])))
    have hto : ∀ x, R x (bindE E (drop, keep) x) := fun x => by
      rw [hE']
      split
      · rename_i e
        exact hR.trans _ drop _ (h1 _ _ (by rw [e, hEd])) (hR.symm _ _ hRkd)
      · exact h1 _ _ (h.idem x).symm
    refine ⟨fun x y e => hR.trans _ _ _ (hto x) (by rw [e]; exact hR.symm _ _ (hto y)), fun p hq => ?_⟩
    rcases List.mem_append.1 hq with e | e
    · exact h2 p (by simp [e])
    · obtain ⟨k, hk, rfl⟩ := newsF_mem.1 e
      rcases hl with hv | ⟨hd, hkk, hlab⟩
      · rw [hA.var drop hv] at hk
        exact absurd hk (Nat.not_lt_zero _)
      · exact (hR.lab keep drop hkN hdN hRkd hkk hd).2 k (by rw [hlab.2.2.2]; exact hk)
  · rcases List.mem_append.1 hq with e | e
    · exact h.tr p (by simp [e])
    · obtain ⟨k, hk, rfl⟩ := newsF_mem.1 e
      rcases hl with hv | ⟨hd, hkk, hlab⟩
      · rw [hA.var drop hv] at hk
        exact absurd hk (Nat.not_lt_zero _)
      · exact ⟨(hA.arg keep hkN k (by rw [hlab.2.2.2]; exact hk)).2, (hA.arg drop hdN k hk).2⟩
  · obtain ⟨h1, h2, h3⟩ := h.rep x hx hk
    by_cases e : E x = drop
    · have e1 : bindE E (drop, keep) x = keep := by rw [hE', if_pos e]
      rw [e] at h1 h2 h3
      rcases hl with hv | ⟨hd, hkk, hlab⟩
      · exact absurd hv h1
      · rw [e1]
        refine ⟨hkk, h2.trans hlab.symm, fun k hk R hR hkr hp => ?_⟩
        have g1 := hmono (h3 k hk) R hR hkr hp
        have g2 := hp (argN ns keep k, argN ns drop k) (by
          rw [List.mem_append]
          exact Or.inr (newsF_mem.2 ⟨k, by rw [← h2.2.2.2]; exact hk, rfl⟩))
        exact hR.trans _ _ _ g1 (hR.symm _ _ g2)
    · have e1 : bindE E (drop, keep) x = E x := by rw [hE', if_neg e]
      rw [e1]
      exact ⟨h1, h2, fun k hk => hmono (h3 k hk)⟩
def NoSol (ns : List Nd) (P : List (Nat × Nat)) : Prop := ∀ R, Cg ns R → (∀ p ∈ P, R p.1 p.2) → False
theorem Un.fail {ns : List Nd} {P : List (Nat × Nat)} {E : Nat → Nat} {todo : List (Nat × Nat)} {a b keep drop : Nat} (h : Un ns P E (todo ++ [(a, b)])) (hkd : (keep = E a ∧ drop = E b) ∨ (keep = E b ∧ drop = E a)) (hd : (ndN ns drop).kind ≠ 1) (hk : (ndN ns keep).kind ≠ 1) (hl : ¬ labS (ndN ns keep) (ndN ns drop)) : NoSol ns P := fun R hR hp => by
  obtain ⟨h1, h2⟩ := h.min R hR hp
  have hab := h.tr (a, b) (by simp)
  have hRab := h2 (a, b) (by simp)
  have ha : R a (E a) := h1 _ _ (h.idem a).symm
  have hb : R b (E b) := h1 _ _ (h.idem b).symm
  have hE : R (E a) (E b) := hR.trans _ _ _ (hR.symm _ _ ha) (hR.trans _ _ _ hRab hb)
  rcases hkd with ⟨rfl, rfl⟩ | ⟨rfl, rfl⟩
  · exact hl (hR.lab _ _ (h.rng _ hab.1) (h.rng _ hab.2) hE hk hd).1
  · exact hl (hR.lab _ _ (h.rng _ hab.2) (h.rng _ hab.1) (hR.symm _ _ hE) hk hd).1
theorem NoSol.more {ns : List Nd} {P Q : List (Nat × Nat)} (h : NoSol ns P) (hq : ∀ p ∈ P, p ∈ Q) : NoSol ns Q := fun R hR hp => h R hR (fun p hm => hp p (hq p hm))
theorem Un.done {ns : List Nd} {P : List (Nat × Nat)} {E : Nat → Nat} (h : Un ns P E []) : Cg ns (fun x y => E x = E y) ∧ (∀ p ∈ P, E p.1 = E p.2) ∧ ∀ R, Cg ns R → (∀ p ∈ P, R p.1 p.2) → ∀ x y, E x = E y → R x y := by
  have h3 : Eq3 (fun x y => E x = E y) := ⟨fun _ => rfl, fun _ _ e => e.symm, fun _ _ _ e f => e.trans f⟩
  have hg : ∀ {u v : Nat}, Gnf E [] u v → E u = E v := fun hg => hg (fun x y => E x = E y) h3 (fun _ _ e => e) (fun p hp => by cases hp)
  refine ⟨⟨h3, fun x y hx hy e hkx hky => ?_⟩, fun p hp => hg (h.got p hp), fun R hR hp => (h.min R hR hp).1⟩
  obtain ⟨a1, a2, a3⟩ := h.rep x hx hkx
  obtain ⟨b1, b2, b3⟩ := h.rep y hy hky
  have e' : E x = E y := e
  rw [e'] at a1 a2 a3
  refine ⟨a2.trans b2.symm, fun k hk => ?_⟩
  exact (hg (a3 k hk)).trans (hg (b3 k (by have q1 := b2.2.2.2; have q2 := a2.2.2.2; omega))).symm
def fixN (E : Nat → Nat) : Nat → Nat
  | 0 => 0
  | n + 1 => fixN E n + if E n = n then 1 else 0
theorem fixN_le {E E' : Nat → Nat} (h : ∀ x, E' x = x → E x = x) : ∀ n, fixN E' n ≤ fixN E n
  | 0 => Nat.le_refl _
  | n + 1 => by
    have := fixN_le h n
    rw [fixN, fixN]
    by_cases e : E' n = n
    · rw [if_pos e, if_pos (h n e)]; omega
    · rw [if_neg e]; omega
theorem fixN_lt {E E' : Nat → Nat} (h : ∀ x, E' x = x → E x = x) {d : Nat} (hd : E d = d) (hd' : E' d ≠ d) : ∀ n, d < n → fixN E' n < fixN E n
  | 0, h0 => absurd h0 (Nat.not_lt_zero _)
  | n + 1, hn => by
    rw [fixN, fixN]
    by_cases e : d = n
    · subst e
      have := fixN_le h d
      rw [if_neg hd', if_pos hd]
      omega
    · have := fixN_lt h hd hd' n (by omega)
      by_cases e2 : E' n = n
      · rw [if_pos e2, if_pos (h n e2)]; omega
      · rw [if_neg e2]; omega
theorem fixN_bind {E : Nat → Nat} {keep drop n : Nat} (hk : E keep = keep) (hd : E drop = drop) (hne : keep ≠ drop) (hn : drop < n) : fixN (bindE E (drop, keep)) n < fixN E n := by
  have hE' : ∀ x, bindE E (drop, keep) x = if E x = drop then keep else E x := fun x => by
    show (if E x = drop then E keep else E x) = _
    rw [hk]
  refine fixN_lt (fun x e => ?_) hd (by rw [hE', if_pos hd]; exact hne) n hn
  rw [hE'] at e
  split at e
  · rename_i e2
    subst e
    exact hk
  · exact e
theorem fixN_top (E : Nat → Nat) : ∀ n, fixN E n ≤ n
  | 0 => Nat.le_refl _
  | n + 1 => by
    have := fixN_top E n
    rw [fixN]
    split <;> omega
end Go.Proofs.YtlibjdilicfcdaaGreatDoor

namespace Go.Proofs.YtlibjdilicfcdaaGreatDoor
set_option maxRecDepth 100000
open Go.RowKit
def wpOpS (P : Program) (ops : Array Oper) (Q : Exit → Act → World → Prop) (i : Nat) (K : Act → World → Prop) (a : Act) (w : World) : Prop :=
  match ops[i]? with
  | none => K a w
  | some o => if Region.wanted o (yielded ops a.tmps) then o.wp P a w K Q else K (a.put o.dst undef) w
theorem wpOpS_step {P : Program} {ops : Array Oper} {Q : Exit → Act → World → Prop} {i : Nat} {K : Act → World → Prop} {a : Act} {w : World} {o : Oper} (ho : ops[i]? = some o) (h : ∀ K' : Act → World → Prop, (∀ a w, K a w → K' a w) → if Region.wanted o (yielded ops a.tmps) then o.wp P a w K' Q else K' (a.put o.dst undef) w) : wpOpS P ops Q i K a w := by
  unfold wpOpS
  rw [ho]
  exact h K (fun _ _ h => h)
theorem wpAny_invS {P : Program} {md : Region.Mode} {ops : Array Oper} {Q : Exit → Act → World → Prop} (I : Array Bool → Act → World → Prop)
    (hstep : ∀ l a w, I l a w → ∀ i, i ∈ Region.ready md ops l → wpOpS P ops Q i (I (l.setIfInBounds i true)) a w)
    (hdone : ∀ l a w, I l a w → Region.ready md ops l = [] → Q .normal a w) (fuel : Nat) (l : Array Bool) (a : Act) (w : World) (hf : l.toList.count false ≤ fuel) (hI : I l a w) : wpAny P md ops Q fuel l a w := by
  refine wpAny_inv I (fun l a w h i hi => ?_) hdone fuel l a w hf hI
  have h3 := hstep l a w h i hi
  unfold wpOpS at h3
  unfold wpOp
  cases ho : ops[i]? with
  | none =>
    rw [ho] at h3
    exact h3
  | some o =>
    rw [ho] at h3
    simp only at h3 ⊢
    split
    · rename_i hw
      rw [if_pos hw] at h3
      exact Or.inl h3
    · rename_i hw
      rw [if_neg hw] at h3
      exact h3
def selV (b : Bool) (v u : Value) : Value := if b then v else u
theorem selV_t (v u : Value) : selV true v u = v := rfl
def bitA (l : Array Bool) (k : Nat) : Bool := l.getD k false
theorem gsetN {N : Nat} (l : Array Bool) (i j : Nat) (hl : l.size = N) (hi : i < N) : bitA (l.setIfInBounds i true) j = if i = j then true else bitA l j := by
  unfold bitA
  simp only [Array.getD_eq_getD_getElem?, Array.getElem?_setIfInBounds]
  split
  · rename_i e
    rw [if_pos (by omega)]
    rfl
  · rfl
def Clo (f : Nat → List Nat) (l : Array Bool) : Prop := ∀ k, bitA l k = true → ∀ d ∈ f k, bitA l d = true
theorem Clo.step {N : Nat} {f : Nat → List Nat} {l : Array Bool} (h : Clo f l) (hl : l.size = N) {i : Nat} (hi : i < N) (hd : ∀ d ∈ f i, bitA l d = true) : Clo f (l.setIfInBounds i true) := fun k hk d hdk => by
  rw [gsetN l i d hl hi]
  split
  · rfl
  · rw [gsetN l i k hl hi] at hk
    by_cases e : i = k
    · subst e
      exact hd d hdk
    · rw [if_neg e] at hk
      exact h k hk d hdk
theorem Clo.start (f : Nat → List Nat) (N : Nat) : Clo f (Array.replicate N false) := fun k hk => by
  unfold bitA at hk
  rw [Array.getD_eq_getD_getElem?, Array.getElem?_replicate] at hk
  split at hk <;> cases hk
theorem goppN {N : Nat} {l : Array Bool} {i : Nat} (hl : l.size = N) (hi : i < N) : bitA l i = l.getD i true := by
  have h : i < l.size := by omega
  simp [bitA, Array.getD_eq_getD_getElem?, h]
theorem dep_at {md : Region.Mode} {ops : Array Oper} {l : Array Bool} {i j : Nat} {o : Oper} {e : Edge} (h : ((ops[i]?).map (·.after.all fun e => !Region.binds md e || l.getD e.on false)).getD false = true) (ho : ops[i]? = some o) (hj : o.after[j]? = some e) (hb : Region.binds md e = true) : bitA l e.on = true := by
  rw [ho, Option.map_some, Option.getD_some, Array.all_eq_true] at h
  obtain ⟨hlt, e1⟩ := Array.getElem?_eq_some_iff.1 hj
  have := h j hlt
  rw [e1, hb] at this
  show l.getD e.on false = true
  simpa using this
theorem noneN {md : Region.Mode} {ops : Array Oper} {l : Array Bool} (h : Region.ready md ops l = []) {i : Nat} (hi : i < ops.size) (hd : ((ops[i]?).map (·.after.all fun e => !Region.binds md e || l.getD e.on false)).getD false = true) : l.getD i true = true := by
  cases e : l.getD i true with
  | true => rfl
  | false =>
    have : i ∈ Region.ready md ops l := by
      unfold Region.ready
      refine List.mem_filter.2 ⟨List.mem_range.2 hi, ?_⟩
      rw [Bool.and_eq_true, e]
      exact ⟨rfl, hd⟩
    rw [h] at this
    cases this
end Go.Proofs.YtlibjdilicfcdaaGreatDoor
