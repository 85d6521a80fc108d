/- Pairs in memory: a row of pairs, a map that tells which were seen, two that tell which variables are paired. -/
import Derived.Test.YtcgkmenlacinjaaBiAkMZ
import Derived.Test.YtcgkmenlacinjaaBiIZ
import Derived.Maps.OwnSet
import Derived.Maps.OwnOps
import Derived.DeepKeys4
namespace Go.Proofs.Ytcgkmenlacinjaa
open Go.RowKit Go.Maps

theorem infoP : (Try.prog.info? 71).map (fun i => (i.zero, i.size, i.bytes)) = some (some (.agg #[.int .i64 0, .int .i64 0]), 2, 16) := by kernel_rfl
/-- A pair as a value, a number as a value. -/
def pv (p : Pn) : Value := .agg #[.int .i64 (p.1 : Int), .int .i64 (p.2 : Int)]
def iv (x : Nat) : Value := .int .i64 (x : Int)
theorem pv_inj {p q : Pn} (h : pv p = pv q) : p = q := by
  unfold pv at h
  injection h with h
  simp at h
  exact Prod.ext (by omega) (by omega)
theorem iv_inj {x y : Nat} (h : iv x = iv y) : x = y := by
  unfold iv at h
  injection h with _ h
  omega
/-- The cells of a row of pairs. -/
def pcells : List Pn → List Value
  | [] => []
  | p :: r => .int .i64 (p.1 : Int) :: .int .i64 (p.2 : Int) :: pcells r
theorem pcells_len : ∀ l, (pcells l).length = l.length * 2
  | [] => rfl
  | p :: r => by
    simp only [pcells, List.length_cons, pcells_len r]
    omega
theorem pcells_snoc : ∀ l p, pcells (l ++ [p]) = pcells l ++ [.int .i64 (p.1 : Int), .int .i64 (p.2 : Int)]
  | [], _ => rfl
  | q :: r, p => by simp only [List.cons_append, pcells, pcells_snoc r p]
theorem own_pop {w : World} {B n : Nat} {a : Option Addr} {c : Nat} {T : List Pn} {p : Pn} (hn : T.length = n) (h : w.ownsRow B 71 2 (.slice a (n + 1) c) (n + 1) (pcells (T ++ [p]))) : w.ownsRow B 71 2 (.slice a n c) n (pcells T) ∧ ∃ q, a = some ⟨q, 0, none⟩ ∧ w.cell? ⟨q, n * 2, none⟩ = some (.int .i64 (p.1 : Int)) ∧ w.cell? ⟨q, n * 2 + 1, none⟩ = some (.int .i64 (p.2 : Int)) ∧ q < w.heap.size ∧ n ≤ c := by
  rcases h.2 with ⟨h1, _⟩ | ⟨g, cap, cur, hv, hB, hg, hc, hm, hs, ht⟩
  · injection h1 with _ h2 _
    omega
  · injection hv with e1 _ e3
    subst e1 e3
    have hc0 : ∀ j u, (pcells (T ++ [p]))[j]? = some u → w.cell? ⟨g, j, none⟩ = some u := fun j u hu => by
      have := h.cells (g := g) rfl j u hu
      rw [Addr.add_lit, Nat.zero_add] at this
      exact this
    refine ⟨⟨by rw [pcells_len, hn], Or.inr ⟨g, c, cur, rfl, hB, hg, by omega, hm, hs, ?_⟩⟩, g, rfl, hc0 _ _ ?_, hc0 _ _ ?_, lt_of_block hg, by omega⟩
    · have e : n * 2 ≤ (n + 1) * 2 := by omega
      have : cur.toList.take (n * 2) = (cur.toList.take ((n + 1) * 2)).take (n * 2) := by rw [List.take_take, Nat.min_eq_left e]
      rw [this, ht, pcells_snoc, List.take_append_of_le_length (by rw [pcells_len, hn]; exact Nat.le_refl _), List.take_of_length_le (by rw [pcells_len, hn]; exact Nat.le_refl _)]
    · rw [pcells_snoc]
      simp [pcells_len, hn]
    · rw [pcells_snoc]
      simp [pcells_len, hn]
/-- Pairs as keys. -/
theorem pairRow : (71 : TypeId) < Try.prog.types.size := of_decide_eq_true (by kernel_rfl)
theorem pairWide : (match Try.prog.underlying 71 with | some (.array _ _) | some (.struct _) => true | _ => false) = true := by kernel_rfl
set_option maxRecDepth 100000 in
theorem pairLaw : Keyed Try.prog 71 := Keyed.of_law (deep_law_laid labLaid (m := 3) (by omega) pairRow (by kernel_rfl) pairWide)
theorem pairKt : Try.prog.keyType 71 = true := by kernel_rfl
theorem pairCells : Try.prog.cellsOf 71 = 2 := by kernel_rfl
theorem pair_lits (d : Nat) (a b : Int) (ha : (Lit.int .i64 a).wf = true) (hb : (Lit.int .i64 b).wf = true) :
    Try.prog.keyLits (d + 1 + 1) 71 [.int .i64 a, .int .i64 b] = some [.int .i64 a, .int .i64 b] := by
  simp [Program.keyLits, Try.underlying71, Try.underlying3, pairCells, intCells, ha, hb]
theorem pair_key {p : Pn} (h1 : p.1 ≤ 5000) (h2 : p.2 ≤ 5000) : ∃ kl, keyOf Try.prog 71 (pv p) = some kl := by
  obtain ⟨d, hd⟩ : ∃ d, Try.prog.types.size = d + 1 := Nat.exists_eq_add_one.2 (Nat.lt_of_le_of_lt (Nat.zero_le _) pairRow)
  unfold keyOf pv
  simp only [Try.underlying71]
  have hf : (Value.agg #[.int .i64 (p.1 : Int), .int .i64 (p.2 : Int)]).formed Try.prog 71 = true := by
    simp [Value.formed, Try.underlying71, pairCells]
  rw [pairKt, hf, hd]
  have := pair_lits d (p.1 : Int) (p.2 : Int) (WalkArith.wf_i64 (by omega)) (WalkArith.wf_i64 (by omega))
  exact ⟨.string (keyBytes [.int .i64 (p.1 : Int), .int .i64 (p.2 : Int)]), by simp [Value.cells, this]⟩
theorem intLaw : Keyed Try.prog 3 := int_keyed Try.underlying3
theorem int_key {x : Nat} (h : x ≤ 5000) : keyOf Try.prog 3 (iv x) = some (.int .i64 (x : Int)) := keyOf_int_mk Try.underlying3 (WalkArith.wf_i64 (by omega))
/-- A map tells a function of its keys. -/
def Mf (k : TypeId) (D : DataW Unit) (f : Value → Option Int) : Prop := Maps.IsMap D ∧ ∀ v kl, keyOf Try.prog k v = some kl → Maps.has D kl = (f v).isSome ∧ D.atKey kl (.lit (.int .i64 0)) = .lit (.int .i64 ((f v).getD 0))
theorem Mf.start (k : TypeId) : Mf k (.map []) (fun _ => none) := ⟨⟨[], rfl⟩, fun _ _ _ => ⟨by simp [Maps.has], rfl⟩⟩
/-- A function that is told one value more. -/
noncomputable def updV (f : Value → Option Int) (v0 : Value) (y : Int) : Value → Option Int := fun v => @ite _ (v = v0) (Classical.propDecidable _) (some y) (f v)
theorem updV_same (f : Value → Option Int) (v0 : Value) (y : Int) : updV f v0 y v0 = some y := by
  unfold updV
  rw [if_pos rfl]
theorem updV_other (f : Value → Option Int) {v v0 : Value} (y : Int) (h : v ≠ v0) : updV f v0 y v = f v := by
  unfold updV
  rw [if_neg h]
theorem Mf.put {k : TypeId} (K : Keyed Try.prog k) {D : DataW Unit} {f : Value → Option Int} (h : Mf k D f) {v0 : Value} {kl0 : Lit} (hk : keyOf Try.prog k v0 = some kl0) (y : Int) : Mf k (D.put kl0 (.lit (.int .i64 y))) (updV f v0 y) := by
  refine ⟨?_, fun v kl hkl => ?_⟩
  · obtain ⟨es, rfl⟩ := h.1
    exact ⟨_, rfl⟩
  · by_cases e : v = v0
    · subst e
      obtain rfl : kl0 = kl := Option.some.inj (hk.symm.trans hkl)
      rw [updV_same, Maps.has_put_same h.1 (K.key hk), Maps.atKey_put_same h.1 (K.key hk)]
      exact ⟨rfl, rfl⟩
    · have hne : kl ≠ kl0 := fun e' => e (K.inj (by rw [← e']; exact hkl) hk)
      rw [updV_other _ _ e, Maps.has_put_other hne, Maps.atKey_put_other hne]
      exact h.2 v kl hkl
/-- What the three maps tell of the pairs that were seen. -/
structure Mt (a : Gf) (S : List Pn) (f1 f2 f3 : Value → Option Int) : Prop where
  s1 : ∀ p, p ∈ S → f1 (pv p) = some 1
  s0 : ∀ p, p ∉ S → f1 (pv p) = none
  t1 : ∀ x y, (x, y) ∈ S → (a.nodes.getD x nd0).kind = 1 → f2 (iv x) = some (y : Int)
  t0 : ∀ x, (∀ y, (x, y) ∈ S → (a.nodes.getD x nd0).kind ≠ 1) → f2 (iv x) = none
  b1 : ∀ x y, (x, y) ∈ S → (a.nodes.getD x nd0).kind = 1 → f3 (iv y) = some (x : Int)
  b0 : ∀ y, (∀ x, (x, y) ∈ S → (a.nodes.getD x nd0).kind ≠ 1) → f3 (iv y) = none
theorem Mt.start (a : Gf) : Mt a [] (fun _ => none) (fun _ => none) (fun _ => none) := ⟨by simp, fun _ _ => rfl, by simp, fun _ _ => rfl, by simp, fun _ _ => rfl⟩
section
variable {a : Gf} {S : List Pn} {f1 f2 f3 : Value → Option Int} {p : Pn}
theorem seen_snoc (h : Mt a S f1 f2 f3) : (∀ q, q ∈ S ++ [p] → updV f1 (pv p) 1 (pv q) = some 1) ∧ ∀ q, q ∉ S ++ [p] → updV f1 (pv p) 1 (pv q) = none := by
  refine ⟨fun q hq => ?_, fun q hq => ?_⟩
  · by_cases e : q = p
    · rw [e, updV_same]
    · rw [updV_other _ _ (fun e' => e (pv_inj e'))]
      exact h.s1 q ((mem_snoc.1 hq).resolve_right e)
  · have e : q ≠ p := fun e => hq (mem_snoc.2 (Or.inr e))
    rw [updV_other _ _ (fun e' => e (pv_inj e'))]
    exact h.s0 q (fun h' => hq (mem_snoc.2 (Or.inl h')))
/-- A pair more that is no pair of variables. -/
theorem Mt.plain (h : Mt a S f1 f2 f3) (hk : (a.nodes.getD p.1 nd0).kind ≠ 1) : Mt a (S ++ [p]) (updV f1 (pv p) 1) f2 f3 := by
  have h1 := seen_snoc (p := p) h
  refine ⟨h1.1, h1.2, fun x y hxy hx => ?_, fun x hx => h.t0 x (fun y hy => hx y (mem_snoc.2 (Or.inl hy))), fun x y hxy hx => ?_, fun y hy => h.b0 y (fun x hx => hy x (mem_snoc.2 (Or.inl hx)))⟩
  · rcases mem_snoc.1 hxy with k | k
    · exact h.t1 x y k hx
    · exact absurd hx (by rw [← k] at hk; exact hk)
  · rcases mem_snoc.1 hxy with k | k
    · exact h.b1 x y k hx
    · exact absurd hx (by rw [← k] at hk; exact hk)
/-- A pair more of variables that were not paired. -/
theorem Mt.var (h : Mt a S f1 f2 f3) (hk : (a.nodes.getD p.1 nd0).kind = 1) (n2 : f2 (iv p.1) = none) (n3 : f3 (iv p.2) = none) : Mt a (S ++ [p]) (updV f1 (pv p) 1) (updV f2 (iv p.1) (p.2 : Int)) (updV f3 (iv p.2) (p.1 : Int)) := by
  have h1 := seen_snoc (p := p) h
  refine ⟨h1.1, h1.2, fun x y hxy hx => ?_, fun x hx => ?_, fun x y hxy hx => ?_, fun y hy => ?_⟩
  · rcases mem_snoc.1 hxy with k | k
    · have := h.t1 x y k hx
      by_cases e : x = p.1
      · rw [e, n2] at this
        cases this
      · rw [updV_other _ _ (fun e' => e (iv_inj e'))]
        exact this
    · have e1 : x = p.1 := congrArg Prod.fst k
      have e2 : y = p.2 := congrArg Prod.snd k
      rw [e1, e2, updV_same]
  · have e : x ≠ p.1 := fun e => hx p.2 (mem_snoc.2 (Or.inr (by rw [e]))) (by rw [e]; exact hk)
    rw [updV_other _ _ (fun e' => e (iv_inj e'))]
    exact h.t0 x (fun y hy => hx y (mem_snoc.2 (Or.inl hy)))
  · rcases mem_snoc.1 hxy with k | k
    · have := h.b1 x y k hx
      by_cases e : y = p.2
      · rw [e, n3] at this
        cases this
      · rw [updV_other _ _ (fun e' => e (iv_inj e'))]
        exact this
    · have e1 : x = p.1 := congrArg Prod.fst k
      have e2 : y = p.2 := congrArg Prod.snd k
      rw [e1, e2, updV_same]
  · have e : y ≠ p.2 := fun e => hy p.1 (mem_snoc.2 (Or.inr (by rw [e]))) hk
    rw [updV_other _ _ (fun e' => e (iv_inj e'))]
    exact h.b0 y (fun x hx => hy x (mem_snoc.2 (Or.inl hx)))
end
/-- A map in memory. -/
def Mw (w : World) (k : TypeId) (q n : Nat) (f : Value → Option Int) : Prop := ∃ D : DataW Unit, w.ownsMap Try.prog k (plainElem Try.prog 3) q n D ∧ Mf k D f
theorem Mw.at {w w' : World} {k : TypeId} {q n : Nat} {f : Value → Option Int} (h : Mw w k q n f) (e : w'.heap[q]? = w.heap[q]?) : Mw w' k q n f := by
  obtain ⟨D, ⟨es, clock, hb, F, hs, hD⟩, hf⟩ := h
  exact ⟨D, ⟨es, clock, e.trans hb, F, hs, hD⟩, hf⟩
theorem Mw.lt {w : World} {k : TypeId} {q n : Nat} {f : Value → Option Int} (h : Mw w k q n f) : q < w.heap.size := by
  obtain ⟨D, h, _⟩ := h
  exact h.lt
theorem Mw.no {w : World} {k : TypeId} {q n : Nat} {f : Value → Option Int} (h : Mw w k q n f) {cs : Array Value} {t : TypeId} : w.heap[q]? ≠ some (.cells cs t (0, 0)) := fun e => by
  obtain ⟨D, ⟨es, clock, hb, _⟩, _⟩ := h
  rw [hb] at e
  cases e
theorem Mw.row {w : World} {k : TypeId} {q n : Nat} {f : Value → Option Int} (h : Mw w k q n f) {B s m : Nat} {e : TypeId} {v : Value} {xs : List Value} (hr : w.ownsRow B e s v m xs) : v.ownBlock ≠ some q := fun e1 => by
  obtain ⟨cur, h1, _⟩ := own_block_obj hr e1
  exact h.no h1
/-- All that the walk keeps. -/
structure Ak (W : World) (nv rv mv sv : Value) (a : Gf) (q1 q2 q3 : Nat) (S T : List Pn) (tv : Value) (w : World) : Prop where
  bt : Bt W nv rv mv sv w
  row : w.ownsRow (W.heap.size + 2) 71 2 tv T.length (pcells T)
  maps : ∃ f1 f2 f3, Mw w 71 q1 S.length f1 ∧ Mw w 3 q2 S.length f2 ∧ Mw w 3 q3 S.length f3 ∧ Mt a S f1 f2 f3
  d : q1 ≠ q2 ∧ q1 ≠ q3 ∧ q2 ≠ q3
  lo : W.heap.size + 2 ≤ q1 ∧ W.heap.size + 2 ≤ q2 ∧ W.heap.size + 2 ≤ q3
theorem Ak.next {W w w' : World} {nv rv mv sv tv : Value} {a : Gf} {q1 q2 q3 : Nat} {S T : List Pn} (h : Ak W nv rv mv sv a q1 q2 q3 S T tv w) (hb : Below w.heap.size w w') : Ak W nv rv mv sv a q1 q2 q3 S T tv w' := by
  obtain ⟨f1, f2, f3, h1, h2, h3, h4⟩ := h.maps
  exact ⟨h.bt.next hb, own_below h.row hb, ⟨f1, f2, f3, h1.at (hb.block _ h1.lt), h2.at (hb.block _ h2.lt), h3.at (hb.block _ h3.lt), h4⟩, h.d, h.lo⟩
theorem bt_grown {W w w' : World} {nv rv mv sv : Value} {row : Option Nat} (h : Bt W nv rv mv sv w) (hg : w.grownBy w' row) (hr : ∀ k, row = some k → W.heap.size + 2 ≤ k) : Bt W nv rv mv sv w' := by
  have z0 := lt_of_block h.b0
  have z1 := lt_of_block h.b1
  exact ⟨h.b.grown hg h.b.size (fun k e => by have := hr k e; omega), by rw [hg.block _ z0 (fun e => by have := hr _ e.symm; omega)]; exact h.b0, by rw [hg.block _ z1 (fun e => by have := hr _ e.symm; omega)]; exact h.b1⟩
/-- The last pair is taken off. -/
theorem Ak.pop {W w : World} {nv rv mv sv : Value} {a : Gf} {q1 q2 q3 : Nat} {S T : List Pn} {p : Pn} {ao : Option Addr} {n c : Nat} (h : Ak W nv rv mv sv a q1 q2 q3 S (T ++ [p]) (.slice ao (n + 1) c) w) (hn : T.length = n) : Ak W nv rv mv sv a q1 q2 q3 S T (.slice ao n c) w := by
  have hr := h.row
  rw [List.length_append, List.length_singleton, hn] at hr
  refine ⟨h.bt, ?_, h.maps, h.d, h.lo⟩
  rw [hn]
  exact (own_pop hn hr).1
/-- A pair is pushed. -/
theorem Ak.push {W w w' : World} {nv rv mv sv : Value} {a : Gf} {q1 q2 q3 : Nat} {S T : List Pn} {p : Pn} {tv tv' : Value} {n : Nat} (h : Ak W nv rv mv sv a q1 q2 q3 S T tv w) (hn : T.length = n) (hg : w.grownBy w' tv.ownBlock) (hown : w'.ownsRow (W.heap.size + 2) 71 2 tv' (n + 1) (pcells T ++ [.int .i64 (p.1 : Int), .int .i64 (p.2 : Int)])) : Ak W nv rv mv sv a q1 q2 q3 S (T ++ [p]) tv' w' := by
  obtain ⟨f1, f2, f3, h1, h2, h3, h4⟩ := h.maps
  refine ⟨bt_grown h.bt hg (fun k e => (h.row.lt k e).1), ?_, ⟨f1, f2, f3, h1.at (hg.block _ h1.lt (fun e => h1.row h.row e.symm)), h2.at (hg.block _ h2.lt (fun e => h2.row h.row e.symm)), h3.at (hg.block _ h3.lt (fun e => h3.row h.row e.symm)), h4⟩, h.d, h.lo⟩
  rw [List.length_append, List.length_singleton, hn, pcells_snoc]
  exact hown
theorem Mw.mono {w : World} {k : TypeId} {q n m : Nat} {f : Value → Option Int} (h : Mw w k q n f) (hn : n ≤ m) : Mw w k q m f := by
  obtain ⟨D, h, hf⟩ := h
  exact ⟨D, h.mono hn, hf⟩
/-- What the walk keeps while a pair is looked at that was not seen. -/
structure Av (W : World) (nv rv mv sv : Value) (q1 q2 q3 : Nat) (k : Nat) (T : List Pn) (p : Pn) (f1 f2 f3 : Value → Option Int) (tv : Value) (pb n1 n2 : Nat) (cA cB : Array Value) (w : World) : Prop where
  bt : Bt W nv rv mv sv w
  row : w.ownsRow (W.heap.size + 2) 71 2 tv T.length (pcells T)
  m1 : Mw w 71 q1 (k + 1) f1
  m2 : Mw w 3 q2 k f2
  m3 : Mw w 3 q3 k f3
  d : q1 ≠ q2 ∧ q1 ≠ q3 ∧ q2 ≠ q3
  lo : W.heap.size + 2 ≤ q1 ∧ W.heap.size + 2 ≤ q2 ∧ W.heap.size + 2 ≤ q3
  px : w.heap[pb]? = some (.cells #[.int .i64 (p.1 : Int), .int .i64 (p.2 : Int)] 71 (0, 0))
  x1 : w.heap[n1]? = some (.cells cA 48 (0, 0))
  x2 : w.heap[n2]? = some (.cells cB 48 (0, 0))
section
variable {W w w' : World} {nv rv mv sv tv : Value} {a : Gf} {q1 q2 q3 k pb n1 n2 : Nat} {S T : List Pn} {p : Pn} {f1 f2 f3 : Value → Option Int} {cA cB : Array Value}
theorem Mw.upd {kt : TypeId} {q n : Nat} {f : Value → Option Int} (h : Mw w kt q n f) (hg : w.grownBy w' (some q1)) (hne : q ≠ q1) : Mw w' kt q n f := h.at (hg.block _ h.lt (fun e => hne (by injection e)))
theorem row_upd {kt : TypeId} {n : Nat} {f : Value → Option Int} (hm : Mw w kt q1 n f) (hg : w.grownBy w' (some q1)) {B s m : Nat} {e : TypeId} {v : Value} {xs : List Value} (h : w.ownsRow B e s v m xs) : w'.ownsRow B e s v m xs :=
  own_block h (fun j ej => hg.block j (h.lt j ej).2 (fun e' => hm.row h (by rw [ej, e'])))
theorem blk_upd {kt : TypeId} {n : Nat} {f : Value → Option Int} (hm : Mw w kt q1 n f) (hg : w.grownBy w' (some q1)) {j : Nat} {cs : Array Value} {e : TypeId} (h : w.heap[j]? = some (.cells cs e (0, 0))) : w'.heap[j]? = some (.cells cs e (0, 0)) := by
  rw [hg.block j (lt_of_block h) (fun e' => by
    have e2 : j = q1 := by injection e'
    rw [e2] at h
    exact hm.no h)]
  exact h
/-- The first map is told the pair. -/
theorem Ak.seen {D : DataW Unit} (h : Ak W nv rv mv sv a q1 q2 q3 S T tv w) (hm : Mw w 71 q1 S.length f1) (h2 : Mw w 3 q2 S.length f2) (h3 : Mw w 3 q3 S.length f3) (hf : Mf 71 D f1) {kl : Lit} (hk : keyOf Try.prog 71 (pv p) = some kl) (hmp : w'.ownsMap Try.prog 71 (plainElem Try.prog 3) q1 (S.length + 1) (D.put kl (.lit (.int .i64 1)))) (hg : w.grownBy w' (some q1)) (hx : w.heap[pb]? = some (.cells #[.int .i64 (p.1 : Int), .int .i64 (p.2 : Int)] 71 (0, 0))) (o1 o2 : Array Value) :
    Av W nv rv mv sv q1 q2 q3 S.length T p (updV f1 (pv p) 1) f2 f3 tv pb w'.heap.size (w'.heap.size + 1) o1 o2 ((w'.alloc (.cells o1 48)).alloc (.cells o2 48)) := by
  have hb : Below w'.heap.size w' ((w'.alloc (.cells o1 48)).alloc (.cells o2 48)) := (below_alloc w' _).alloc (by simp) _
  have hmw : Mw w' 71 q1 (S.length + 1) (updV f1 (pv p) 1) := ⟨_, hmp, hf.put pairLaw hk 1⟩
  have h2' := h2.upd hg (fun e => h.d.1 e.symm)
  have h3' := h3.upd hg (fun e => h.d.2.1 e.symm)
  have hx' := blk_upd hm hg hx
  refine ⟨(bt_grown h.bt hg (fun j e => by have e2 : q1 = j := (by injection e); have := h.lo.1; omega)).next hb, own_below (row_upd hm hg h.row) hb, hmw.at (hb.block _ hmw.lt), h2'.at (hb.block _ h2'.lt), h3'.at (hb.block _ h3'.lt), h.d, h.lo, keep1 hx' hb, ?_, ?_⟩
  · rw [Below.heap_alloc _ _ _ (by simp)]
    exact heap_alloc_new w' _
  · have h5 := heap_alloc_new (w'.alloc (.cells o1 48)) (.cells o2 48)
    rw [show (w'.alloc (.cells o1 48)).heap.size = w'.heap.size + 1 by simp] at h5
    exact h5
theorem Av.upd2 (h : Av W nv rv mv sv q1 q2 q3 k T p f1 f2 f3 tv pb n1 n2 cA cB w) (hg : w.grownBy w' (some q2)) : Bt W nv rv mv sv w' ∧ w'.ownsRow (W.heap.size + 2) 71 2 tv T.length (pcells T) ∧ Mw w' 71 q1 (k + 1) f1 ∧ Mw w' 3 q3 k f3 ∧ w'.heap[pb]? = some (.cells #[.int .i64 (p.1 : Int), .int .i64 (p.2 : Int)] 71 (0, 0)) ∧ w'.heap[n1]? = some (.cells cA 48 (0, 0)) ∧ w'.heap[n2]? = some (.cells cB 48 (0, 0)) :=
  ⟨bt_grown h.bt hg (fun j e => by have e2 : q2 = j := (by injection e); have := h.lo.2.1; omega), row_upd h.m2 hg h.row, h.m1.upd hg h.d.1, h.m3.upd hg (fun e => h.d.2.2 e.symm), blk_upd h.m2 hg h.px, blk_upd h.m2 hg h.x1, blk_upd h.m2 hg h.x2⟩
/-- While the arguments are pushed. -/
structure Ax (W : World) (nv rv mv sv : Value) (a : Gf) (q1 q2 q3 : Nat) (S T : List Pn) (tv : Value) (n1 n2 : Nat) (cA cB : Array Value) (w : World) : Prop where
  ak : Ak W nv rv mv sv a q1 q2 q3 S T tv w
  x1 : w.heap[n1]? = some (.cells cA 48 (0, 0))
  x2 : w.heap[n2]? = some (.cells cB 48 (0, 0))
theorem row_type {B s m j : Nat} {e e' : TypeId} {v : Value} {xs : List Value} {cs : Array Value} (hr : w.ownsRow B e s v m xs) (h : w.heap[j]? = some (.cells cs e' (0, 0))) (hne : e ≠ e') : v.ownBlock ≠ some j := fun e1 => by
  obtain ⟨cur, h1, _⟩ := own_block_obj hr e1
  rw [h1] at h
  injection h with h
  injection h with _ h
  exact hne h
theorem Ax.push {tv' : Value} {n : Nat} (h : Ax W nv rv mv sv a q1 q2 q3 S T tv n1 n2 cA cB w) (hn : T.length = n) (hg : w.grownBy w' tv.ownBlock) (hown : w'.ownsRow (W.heap.size + 2) 71 2 tv' (n + 1) (pcells T ++ [.int .i64 (p.1 : Int), .int .i64 (p.2 : Int)])) : Ax W nv rv mv sv a q1 q2 q3 S (T ++ [p]) tv' n1 n2 cA cB w' := by
  refine ⟨h.ak.push hn hg hown, ?_, ?_⟩
  · rw [hg.block _ (lt_of_block h.x1) (fun e => row_type h.ak.row h.x1 (by decide) e.symm)]
    exact h.x1
  · rw [hg.block _ (lt_of_block h.x2) (fun e => row_type h.ak.row h.x2 (by decide) e.symm)]
    exact h.x2
theorem Ax.next (h : Ax W nv rv mv sv a q1 q2 q3 S T tv n1 n2 cA cB w) (hb : Below w.heap.size w w') : Ax W nv rv mv sv a q1 q2 q3 S T tv n1 n2 cA cB w' := ⟨h.ak.next hb, keep1 h.x1 hb, keep1 h.x2 hb⟩
theorem Av.plain (h : Av W nv rv mv sv q1 q2 q3 S.length T p (updV f1 (pv p) 1) f2 f3 tv pb n1 n2 cA cB w) (hm : Mt a S f1 f2 f3) (hk : (a.nodes.getD p.1 nd0).kind ≠ 1) : Ax W nv rv mv sv a q1 q2 q3 (S ++ [p]) T tv n1 n2 cA cB w := by
  refine ⟨⟨h.bt, h.row, ⟨_, _, _, ?_, ?_, ?_, hm.plain hk⟩, h.d, h.lo⟩, h.x1, h.x2⟩
  · rw [List.length_append, List.length_singleton]; exact h.m1
  · rw [List.length_append, List.length_singleton]; exact h.m2.mono (by omega)
  · rw [List.length_append, List.length_singleton]; exact h.m3.mono (by omega)
theorem Av.var {w2 : World} (h : Av W nv rv mv sv q1 q2 q3 S.length T p (updV f1 (pv p) 1) f2 f3 tv pb n1 n2 cA cB w) (hm : Mt a S f1 f2 f3) (hk : (a.nodes.getD p.1 nd0).kind = 1) (e2 : f2 (iv p.1) = none) (e3 : f3 (iv p.2) = none)
    (hg2 : w.grownBy w' (some q2)) (h2 : Mw w' 3 q2 (S.length + 1) (updV f2 (iv p.1) (p.2 : Int))) (hg3 : w'.grownBy w2 (some q3)) (h3 : Mw w2 3 q3 (S.length + 1) (updV f3 (iv p.2) (p.1 : Int))) : Ax W nv rv mv sv a q1 q2 q3 (S ++ [p]) T tv n1 n2 cA cB w2 := by
  obtain ⟨u1, u2, u3, u4, u5, u6, u7⟩ := h.upd2 hg2
  refine ⟨⟨bt_grown u1 hg3 (fun j e => by have e2 : q3 = j := (by injection e); have := h.lo.2.2; omega), row_upd u4 hg3 u2, ⟨_, _, _, ?_, ?_, ?_, hm.var hk e2 e3⟩, h.d, h.lo⟩, blk_upd u4 hg3 u6, blk_upd u4 hg3 u7⟩
  · rw [List.length_append, List.length_singleton]; exact u3.upd hg3 h.d.2.1
  · rw [List.length_append, List.length_singleton]; exact h2.upd hg3 h.d.2.2
  · rw [List.length_append, List.length_singleton]; exact h3
end
end Go.Proofs.Ytcgkmenlacinjaa
