/- What LexEach's loops hold in memory, and how it goes on. -/
import Derived.Test.YtanjgppdjdcnaaaLxScans
import Derived.Test.YtanjgppdjdcnaaaLxLives
import Derived.Test.YtanjgppdjdcnaaaLxQr
namespace Go.Proofs.Ytanjgppdjdcnaaa
open Go.RowKit Go.Shelf

/-- A function held against nil. -/
theorem func_nil_in {P : Program} (w : World) (d : Nat) (t : TypeId) {x : TypeDesc} (h : P.underlying t = some x) (hx : ∃ a b c, x = .func a b c) (g : Fn) (a b : Array Value) : (Op.equalIn (d + 1) t (.func g a b) .nilFunc).run P w = .ok false w := by
  obtain ⟨x1, x2, x3, rfl⟩ := hx
  simp [Op.equalIn, run_underlying h]
theorem func_nil (w : World) (g : Fn) (a b : Array Value) : (binOp .eql 37 (.func g a b) .nilFunc).run Try.prog w = .ok (.bool false) w := by
  simp only [binOp]
  simp [show Op.equal 37 (.func g a b) .nilFunc = Op.equalIn (9999 + 1) 37 (.func g a b) .nilFunc from rfl, func_nil_in w 9999 37 Try.underlying37 ⟨_, _, _, rfl⟩]
abbrev boolObj (b : Bool) : Obj := .cells #[.bool b] 4
/-- The boxes: stop, the result, what is wanted, the fault, the source, the round, n, bad. -/
structure EB (s : ByteArray) (stop : Int) (w : World) (L R N : Nat) (v : Value) (rd cnt : Int) (bad : Bool) (W : World) : Prop where
  b3 : W.heap[w.heap.size]? = some (intObj stop)
  b4 : W.heap[w.heap.size + 1]? = some (boolObj false)
  b5 : W.heap[L]? = some (resObj v)
  b6 : W.heap[L + 1]? = some (fltObj (someC s) (someP s))
  bs : W.heap[L + 2]? = some (srcObj s)
  b8 : W.heap[R]? = some (intObj rd)
  b9 : W.heap[N]? = some (intObj cnt)
  b10 : W.heap[N + 1]? = some (boolObj bad)
  row : Tr W w.heap.size v (someT s)
  below : Below w.heap.size w W
theorem EB.nb {s : ByteArray} {stop : Int} {w : World} {B L R N : Nat} {v : Value} {rd cnt : Int} {bad : Bool} {A A' : World} (h : EB s stop w L R N v rd cnt bad A) (hB : w.heap.size ≤ B) (hn : Nb B A A') : EB s stop w L R N v rd cnt bad A' :=
  ⟨hn.block _ _ h.b3 (Or.inr rfl), hn.block _ _ h.b4 (Or.inr rfl), hn.block _ _ h.b5 (Or.inr rfl), hn.block _ _ h.b6 (Or.inr rfl), hn.block _ _ h.bs (Or.inr rfl), hn.block _ _ h.b8 (Or.inr rfl), hn.block _ _ h.b9 (Or.inr rfl), hn.block _ _ h.b10 (Or.inr rfl), own_nb h.row hn, hn.below h.below hB (Nat.le_refl _)⟩
theorem EB.next {s : ByteArray} {stop : Int} {w : World} {L R N : Nat} {v : Value} {rd cnt : Int} {bad : Bool} {A A' : World} (h : EB s stop w L R N v rd cnt bad A) (hb : Below A.heap.size A A') : EB s stop w L R N v rd cnt bad A' :=
  h.nb (Nat.le_refl _) (Nb.ofBelow hb)
/-- Where the boxes lie. -/
structure EL (w : World) (L R N : Nat) (v : Value) : Prop where
  l : w.heap.size + 2 ≤ L
  r : L + 3 ≤ R
  n : R < N
  row : ∀ k, v.ownBlock = some k → k < L
theorem EB.setN {s : ByteArray} {stop : Int} {w : World} {L R N : Nat} {v : Value} {rd cnt : Int} {bad : Bool} {A : World} (h : EB s stop w L R N v rd cnt bad A) (e : EL w L R N v) (c : Int) : EB s stop w L R N v rd c bad (A.setCell ⟨N, 0, none⟩ (.int .i64 c)) := by
  obtain ⟨e1, e2, e3, e4⟩ := e
  refine ⟨one_far h.b3 (by omega), one_far h.b4 (by omega), one_far h.b5 (by omega), one_far h.b6 (by omega), one_far h.bs (by omega), one_far h.b8 (by omega), one_set _ h.b9, one_far h.b10 (by omega), own_keep h.row fun k hk => Below.heap_setCell _ ⟨N, 0, none⟩ _ k (by have := e4 k hk; show k ≠ N; omega), h.below.setCell (p := ⟨N, 0, none⟩) (by show w.heap.size ≤ N; omega) _⟩
theorem EB.setB {s : ByteArray} {stop : Int} {w : World} {L R N : Nat} {v : Value} {rd cnt : Int} {bad : Bool} {A : World} (h : EB s stop w L R N v rd cnt bad A) (e : EL w L R N v) (c : Bool) : EB s stop w L R N v rd cnt c (A.setCell ⟨N + 1, 0, none⟩ (.bool c)) := by
  obtain ⟨e1, e2, e3, e4⟩ := e
  refine ⟨one_far h.b3 (by omega), one_far h.b4 (by omega), one_far h.b5 (by omega), one_far h.b6 (by omega), one_far h.bs (by omega), one_far h.b8 (by omega), one_far h.b9 (by omega), one_set _ h.b10, own_keep h.row fun k hk => Below.heap_setCell _ ⟨N + 1, 0, none⟩ _ k (by have := e4 k hk; show k ≠ N + 1; omega), h.below.setCell (p := ⟨N + 1, 0, none⟩) (by show w.heap.size ≤ N + 1; omega) _⟩
theorem kept_setCell {B Bs : Nat} {W : World} {N : Nat} {u : Value} (h1 : N < B) (h2 : N ≠ Bs) : Kept B Bs W (W.setCell ⟨N, 0, none⟩ u) :=
  ⟨by simp, fun k hk _ => Below.heap_setCell W ⟨N, 0, none⟩ u k (by show k ≠ N; omega)⟩
/-- The marks of the ranges that are over. -/
def Mk (ms : List Nat) (W : World) : Prop := ∀ D ∈ ms, W.heap[D]? = some (.deferred (some []))
theorem Mk.nb {ms : List Nat} {B : Nat} {A A' : World} (h : Mk ms A) (hB : ∀ D ∈ ms, D < B) (hn : Nb B A A') : Mk ms A' := fun D hD => hn.block _ _ (h D hD) (Or.inl (hB D hD))
theorem Mk.next {ms : List Nat} {A A' : World} (h : Mk ms A) (hb : Below A.heap.size A A') : Mk ms A' := fun D hD => keep_q (h D hD) hb
theorem Mk.set {ms : List Nat} {A : World} {N : Nat} {v u : Value} {T : TypeId} (h : Mk ms A) (hN : A.heap[N]? = some (.cells #[v] T)) : Mk ms (A.setCell ⟨N, 0, none⟩ u) := fun D hD => one_far (h D hD) fun e => by
  have h1 := h D hD
  rw [e, hN] at h1
  cases h1
/-- How far it has come. -/
def KI (s : ByteArray) (pre : List (Tk × Value)) (cnt : Int) (bad : Bool) : Prop :=
  (bad = false ∧ calm pre ∧ cnt = (pre.length : Int)) ∨ (bad = true ∧ ¬ calm pre ∧ cnt = ((someT s).length : Int) ∧ someC s ≠ 0)
theorem KI.start (s : ByteArray) : KI s [] 0 false := Or.inl ⟨rfl, fun y hy => by simp at hy, rfl⟩
theorem KI.still {s : ByteArray} {pre : List (Tk × Value)} {cnt : Int} {bad : Bool} (h : KI s pre cnt bad) (hc : calm pre) : bad = false ∧ cnt = (pre.length : Int) := by
  rcases h with ⟨h1, _, h2⟩ | ⟨_, h2, _⟩
  · exact ⟨h1, h2⟩
  · exact absurd hc h2
theorem KI.done {s : ByteArray} {xs : List (Tk × Value)} {cnt : Int} {bad : Bool} (h : KI s xs cnt bad) (hS : endS s xs) : cnt = ((someT s).length : Int) ∧ bad = (someC s != 0) := by
  rcases hS with ⟨h1, h2, h3⟩ | ⟨h1, ys, ev, rfl, h2, h3, h4⟩
  · obtain ⟨rfl, rfl⟩ := h.still h3
    refine ⟨by rw [← h2]; simp, by simp [h1]⟩
  · rcases h with ⟨_, k2, _⟩ | ⟨rfl, _, k3, _⟩
    · exact absurd (k2 (tk0, ev) (by simp)) h4
    · exact ⟨k3, by simp [h1]⟩
theorem KI.tok {s : ByteArray} {pre : List (Tk × Value)} {t : Tk} (h : calm pre) : KI s (pre ++ [(t, .nilIface)]) ((pre.length : Int) + 1) false :=
  Or.inl ⟨rfl, calm_snoc h, by simp⟩
theorem KI.bad {s : ByteArray} {pre : List (Tk × Value)} {t : Tk} {ev : Value} (hev : ev ≠ .nilIface) (hc : someC s ≠ 0) : KI s (pre ++ [(t, ev)]) ((someT s).length : Int) true :=
  Or.inr ⟨rfl, fun h => hev (h (t, ev) (by simp)), rfl, hc⟩
/-- The token that comes next. -/
theorem next_tok {s : ByteArray} {pre : List (Tk × Value)} {t : Tk} {r : List Tk} (h : pre.map Prod.fst ++ t :: r = someT s) : pre.length < (someT s).length ∧ (someT s).getD pre.length tk0 = t := by
  rw [← h]
  refine ⟨by simp, ?_⟩
  have e : pre.length = (pre.map Prod.fst).length := by simp
  rw [e]
  simp [List.getD]
theorem next_bad {s : ByteArray} {pre : List (Tk × Value)} (h : pre.map Prod.fst = someT s) : pre.length = (someT s).length := by rw [← h]; simp
/-- No token held against no token. -/
theorem tok0_neq (w : World) : (binOp .neq 40 (.agg #[.int .i64 0, .string ⟨#[]⟩, .int .i64 0, .int .i64 0, .int .i64 0]) (.agg #[.int .i64 0, .string ⟨#[]⟩, .int .i64 0, .int .i64 0, .int .i64 0])).run Try.prog w = .ok (.bool false) w := tok_neq tk0 w
theorem alloc_at {w : World} {o u : Obj} {k : Nat} (h : w.heap[k]? = some u) : (w.alloc o).heap[k]? = some u := by
  rw [Below.heap_alloc _ _ _ (lt_heap h)]
  exact h
theorem alloc_new {w : World} {o : Obj} {k : Nat} (h : k = w.heap.size) : (w.alloc o).heap[k]? = some o := by
  subst h
  exact heap_alloc_new w o
/-- Three blocks made one behind the other. -/
theorem three_new (w : World) (o0 o1 o2 : Obj) :
    (((w.alloc o0).alloc o1).alloc o2).heap[w.heap.size]? = some o0 ∧ (((w.alloc o0).alloc o1).alloc o2).heap[w.heap.size + 1]? = some o1 ∧ (((w.alloc o0).alloc o1).alloc o2).heap[w.heap.size + 2]? = some o2 :=
  ⟨alloc_at (alloc_at (alloc_new rfl)), alloc_at (alloc_new (by simp)), alloc_new (by simp)⟩
/-- The next round's boxes. -/
theorem EB.again {s : ByteArray} {stop : Int} {w : World} {L R N : Nat} {v : Value} {rd cnt : Int} {bad : Bool} {A : World} (h : EB s stop w L R N v rd cnt bad A) (r : Int) :
    EB s stop w L A.heap.size (A.heap.size + 1) v r 0 false (((A.alloc (intObj r)).alloc (intObj 0)).alloc (boolObj false)) := by
  obtain ⟨n0, n1, n2⟩ := three_new A (intObj r) (intObj 0) (boolObj false)
  have hb : Below A.heap.size A (((A.alloc (intObj r)).alloc (intObj 0)).alloc (boolObj false)) := (((Below.refl _ A).alloc (Nat.le_refl _) _).alloc (by simp) _).alloc (by simp; omega) _
  have h2 := h.next hb
  exact ⟨h2.b3, h2.b4, h2.b5, h2.b6, h2.bs, n0, n1, n2, h2.row, h2.below⟩
/-- Six blocks made one behind the other. -/
theorem six_new (w : World) (o0 o1 o2 o3 o4 o5 : Obj) :
    ((((((w.alloc o0).alloc o1).alloc o2).alloc o3).alloc o4).alloc o5).heap[w.heap.size]? = some o0 ∧ ((((((w.alloc o0).alloc o1).alloc o2).alloc o3).alloc o4).alloc o5).heap[w.heap.size + 1]? = some o1 ∧
    ((((((w.alloc o0).alloc o1).alloc o2).alloc o3).alloc o4).alloc o5).heap[w.heap.size + 2]? = some o2 ∧ ((((((w.alloc o0).alloc o1).alloc o2).alloc o3).alloc o4).alloc o5).heap[w.heap.size + 3]? = some o3 ∧
    ((((((w.alloc o0).alloc o1).alloc o2).alloc o3).alloc o4).alloc o5).heap[w.heap.size + 4]? = some o4 ∧ ((((((w.alloc o0).alloc o1).alloc o2).alloc o3).alloc o4).alloc o5).heap[w.heap.size + 5]? = some o5 :=
  ⟨alloc_at (alloc_at (alloc_at (alloc_at (alloc_at (alloc_new rfl))))), alloc_at (alloc_at (alloc_at (alloc_at (alloc_new (by simp))))), alloc_at (alloc_at (alloc_at (alloc_new (by simp)))), alloc_at (alloc_at (alloc_new (by simp))), alloc_at (alloc_new (by simp)), alloc_new (by simp)⟩
end Go.Proofs.Ytanjgppdjdcnaaa
