/- A range over a function whose iterator tells the round more than the value that it hands over (what lies behind an error, say): the law of the statement, in the wide fence. -/
import Derived.WalkKit
import Derived.RangeFuncBox
import Derived.RangeFuncNested
import Derived.RangeFuncCalls
import Derived.RangeFuncLeaves
namespace Go.Proofs.YtklfnphkepfmaaaGreatDoor
open Go.RowKit

/-- New blocks have come; of those from B on, only such as are no cells may have turned. -/
structure Nb (B : Nat) (A A' : World) : Prop where
  os : A'.os = A.os
  tape : A'.tape = A.tape
  output : A'.output = A.output
  size : A.heap.size ≤ A'.heap.size
  block : ∀ (k : Nat) (o : Obj), A.heap[k]? = some o → (k < B ∨ o.isCells = true) → A'.heap[k]? = some o
theorem lt_heap {w : World} {b : Nat} {o : Obj} (h : w.heap[b]? = some o) : b < w.heap.size := (Array.getElem?_eq_some_iff.1 h).1
theorem Nb.ofBelow {B : Nat} {A A' : World} (h : Below A.heap.size A A') : Nb B A A' :=
  ⟨h.os, h.tape, h.output, h.size, fun k o hk _ => by rw [h.block k (lt_heap hk)]; exact hk⟩
theorem Nb.put {B : Nat} {A : World} {l : Nat} {o : Obj} (o' : Obj) (hB : B ≤ l) (hl : A.heap[l]? = some o) (ho : o.isCells = false) : Nb B A (A.putObj l o') :=
  ⟨rfl, rfl, rfl, by simp, fun k u hk hu => by
    have hne : k ≠ l := fun e => by
      subst e
      rw [hl] at hk
      obtain rfl := Option.some.inj hk
      rcases hu with h | h
      · omega
      · rw [ho] at h
        cases h
    exact (World.putObj_heap_other hne).trans hk⟩
theorem Nb.below {B : Nat} {W A A' : World} {n : Nat} (h : Nb B A A') (hb : Below n W A) (hn : n ≤ B) (hW : n ≤ W.heap.size) : Below n W A' :=
  ⟨h.os.trans hb.os, h.tape.trans hb.tape, h.output.trans hb.output, Nat.le_trans hb.size h.size, fun k hk => by
    have hkA : k < A.heap.size := by
      have := hb.size
      omega
    have e : A.heap[k]? = some A.heap[k] := Array.getElem?_eq_getElem hkA
    rw [h.block k _ e (Or.inl (by omega)), ← e]
    exact hb.block k hk⟩
/-- These blocks stay as they are. -/
def Kept (B Bs : Nat) (W W' : World) : Prop := W.heap.size ≤ W'.heap.size ∧ ∀ k, (k = Bs ∨ B ≤ k) → k < W.heap.size → W'.heap[k]? = W.heap[k]?
theorem Kept.refl (B Bs : Nat) (W : World) : Kept B Bs W W := ⟨Nat.le_refl _, fun _ _ _ => rfl⟩
theorem Kept.trans {B Bs : Nat} {X Y Z : World} (h : Kept B Bs X Y) (k : Kept B Bs Y Z) : Kept B Bs X Z :=
  ⟨Nat.le_trans h.1 k.1, fun i hi hl => (k.2 i hi (Nat.lt_of_lt_of_le hl h.1)).trans (h.2 i hi hl)⟩
theorem Kept.ofBelow {B Bs : Nat} {W W' : World} (h : Below W.heap.size W W') : Kept B Bs W W' := ⟨h.size, fun k _ hl => h.block k hl⟩
/-- How a round's body may be left. -/
def toldPost {α : Type} (B Bs : Nat) (I : List α → World → Prop) (Ix : Code → List α → World → Prop) (xs : List α) (W : World) : Exit → Act → World → Prop
  | .normal, _, W' => Kept B Bs W W' ∧ I xs W'
  | .ret, _, W' => Kept B Bs W W' ∧ Ix .ret xs W'
  | .exit id, _, W' => Kept B Bs W W' ∧ Ix (.exit id) xs W'
  | .goto t, _, W' => Kept B Bs W W' ∧ Ix (.goto t) xs W'
  | .panic _, _, _ => False
  | .outgrown, _, _ => False
/-- What an iterator owes: it asks the round only at what 'T' says, its own blocks being kept; it ends by itself ('S') or where a round has left. -/
def Tells {α : Type} (n : Nat) (P : Program) (gf : Nat) (lb : Array Value) (encs : α → Array Value) (B Bs : Nat) (T : List α → α → World → Prop) (S : List α → Prop) (w : World) : Prop :=
  ∀ (l : Nat) (J Jx : List α → World → Prop) (W : World), Below w.heap.size w W → B ≤ W.heap.size → (∀ s A A', J s A → Below A.heap.size A A' → J s A') → (∀ s A A', Jx s A → Below A.heap.size A A' → Jx s A') →
    (∀ pre x W1, J pre W1 → T pre x W1 → YieldAt Fence.wide (n - 1) P l (encs x) W1 fun e W' =>
      (e = .returned (.bool true) ∧ J (pre ++ [x]) W' ∧ Kept B Bs W1 W') ∨ (e = .returned (.bool false) ∧ Jx (pre ++ [x]) W')) → J [] W →
    CallsIn Fence.wide n P gf (#[.func (.yield l) #[] #[]] ++ lb) W fun e W' => (∃ v, e = .returned v) ∧ ((∃ xs, S xs ∧ J xs W') ∨ ∃ pre, Jx pre W')
section
variable {α : Type} {n : Nat} {P : Program} {g : Operand} {ps : Array Tmp} {assign body : Code} {Q : Exit → Act → World → Prop} {a : Act} {w : World} {gf : Nat} {lb : Array Value} {encs : α → Array Value} {Bs : Nat}
/-- The loop's own record. -/
def recL (fn : FuncId) (tmps : Array Value) (ps : Array Tmp) (assign body : Code) (D : Nat) (st : LoopState) (pe : Option Code) : Loop := { state := st, pending := pe, fn, tmps, params := ps, assign, body, defers := D }
/-- One round, asked of the body. -/
theorem told_round {fn : FuncId} {I : List α → World → Prop} {Ix : Code → List α → World → Prop} {T : List α → α → World → Prop} (hps : ∀ x, (encs x).size = ps.size) (hBs : Bs < w.heap.size)
    (hI : ∀ s A A', I s A → Nb w.heap.size A A' → I s A') (hIx : ∀ c s A A', Ix c s A → Nb w.heap.size A A' → Ix c s A') (hT : ∀ s x A A', T s x A → Nb w.heap.size A A' → T s x A') {Ax : α → Act → World → Prop} (hAx : ∀ x a' A A', Ax x a' A → Nb w.heap.size A A' → Ax x a' A')
    (hassign : ∀ (l : Nat) (x : α) (W : World) (K : Act → World → Prop), w.heap.size ≤ W.heap.size → (∀ a' W', Below W.heap.size W W' → Ax x a' W' → K a' W') →
      assign.wpIn (Fence.wide.inRound l) n P (Exit.then K (fun _ _ _ => False)) { tmps := (ps.zip (encs x)).foldl (fun t (p, v) => t.setIfInBounds p v) a.tmps, defers := [] } W)
    (hbody : ∀ (l : Nat) (pre : List α) (x : α) (a' : Act) (W : World), I pre W → T pre x W → Ax x a' W → body.wpIn (Fence.wide.inRound l) n P (toldPost w.heap.size Bs I Ix (pre ++ [x]) W) a' W)
    {pre : List α} {x : α} {W : World} (hi : I pre W) (ht : T pre x W) (hl : W.heap[w.heap.size + 1]? = some (.loop (recL fn a.tmps ps assign body w.heap.size .ready none))) (hk : W.heap[w.heap.size]? = some (.deferred (some []))) :
    YieldAt Fence.wide n P (w.heap.size + 1) (encs x) W fun e W' =>
      (e = .returned (.bool true) ∧ (I (pre ++ [x]) W' ∧ W'.heap[w.heap.size + 1]? = some (.loop (recL fn a.tmps ps assign body w.heap.size .ready none)) ∧ W'.heap[w.heap.size]? = some (.deferred (some []))) ∧ Kept (w.heap.size + 2) Bs W W') ∨
      (e = .returned (.bool false) ∧ ∃ c, Ix c (pre ++ [x]) W' ∧ W'.heap[w.heap.size + 1]? = some (.loop (recL fn a.tmps ps assign body w.heap.size .done (some c))) ∧ W'.heap[w.heap.size]? = some (.deferred (some []))) := by
  refine ⟨fn, _, assign, body, run_yield hl (hps x), roundIn_of_wpIn trivial (hassign _ x W _ (by have := lt_heap hk; omega) fun a' W0 hb0 hax => ?_)⟩
  have hl0 : W0.heap[w.heap.size + 1]? = some (.loop (recL fn a.tmps ps assign body w.heap.size .ready none)) := by rw [hb0.block _ (lt_heap hl)]; exact hl
  have hk0 : W0.heap[w.heap.size]? = some (.deferred (some [])) := by rw [hb0.block _ (lt_heap hk)]; exact hk
  have hn0 : Nb w.heap.size W W0 := Nb.ofBelow hb0
  have hK0 : Kept (w.heap.size + 2) Bs W W0 := Kept.ofBelow hb0
  refine ⟨_, run_beginRound hl0 rfl, ?_⟩
  have hlt := lt_heap hl0
  obtain ⟨W1, hW1⟩ : ∃ W1, W1 = W0.putObj (w.heap.size + 1) (.loop { recL fn a.tmps ps assign body w.heap.size .ready none with state := .busy }) := ⟨_, rfl⟩
  have hl1 : W1.heap[w.heap.size + 1]? = some (.loop (recL fn a.tmps ps assign body w.heap.size .busy none)) := by rw [hW1]; exact World.putObj_heap_same hlt
  have hk1 : W1.heap[w.heap.size]? = some (.deferred (some [])) := by rw [hW1]; exact (World.putObj_heap_other (by omega)).trans hk0
  have hn1 : Nb w.heap.size W0 W1 := by rw [hW1]; exact Nb.put _ (by omega) hl0 rfl
  have hz1 : W1.heap.size = W0.heap.size := by rw [hW1]; simp
  have hK1 : Kept (w.heap.size + 2) Bs W W1 := hK0.trans ⟨by omega, fun k hk' _ => by rw [hW1]; exact World.putObj_heap_other (by omega)⟩
  rw [← hW1]
  have fin : ∀ (jump : Option Code) (W3 : World), Kept w.heap.size Bs W1 W3 → ∃ W4, (Instr.endRound (w.heap.size + 1) jump).run P W3 = .ok (.bool jump.isNone) W4 ∧ Nb w.heap.size W3 W4 ∧ Kept (w.heap.size + 2) Bs W W4 ∧
      W4.heap[w.heap.size + 1]? = some (.loop (recL fn a.tmps ps assign body w.heap.size (if jump.isNone then .ready else .done) jump)) ∧ W4.heap[w.heap.size]? = some (.deferred (some [])) := fun jump W3 hk3 => by
    have hl3 : W3.heap[w.heap.size + 1]? = some (.loop (recL fn a.tmps ps assign body w.heap.size .busy none)) := (hk3.2 _ (Or.inr (by omega)) (by omega)).trans hl1
    have hd3 : W3.heap[w.heap.size]? = some (.deferred (some [])) := (hk3.2 _ (Or.inr (Nat.le_refl _)) (by omega)).trans hk1
    refine ⟨_, run_endRound jump hl3, Nb.put _ (by omega) hl3 rfl, hK1.trans (Kept.trans ⟨hk3.1, fun k hk' hlk => hk3.2 k (by omega) hlk⟩ ⟨by simp, fun k hk' _ => World.putObj_heap_other (by omega)⟩), World.putObj_heap_same (lt_heap hl3), (World.putObj_heap_other (by omega)).trans hd3⟩
  refine wpIn_mono (hbody _ pre x a' W1 (hI _ _ _ (hI _ _ _ hi hn0) hn1) (hT _ _ _ _ (hT _ _ _ _ ht hn0) hn1) (hAx _ _ _ _ hax hn1)) ?_
  rintro e a3 W3 hp
  cases e with
  | normal =>
    obtain ⟨W4, h1, h2, h3, h4, h5⟩ := fin none W3 hp.1
    exact ⟨_, W4, h1, .inl ⟨rfl, ⟨hI _ _ _ hp.2 h2, h4, h5⟩, h3⟩⟩
  | ret =>
    obtain ⟨W4, h1, h2, h3, h4, h5⟩ := fin (some .ret) W3 hp.1
    exact ⟨_, W4, h1, .inr ⟨rfl, .ret, hIx _ _ _ _ hp.2 h2, h4, h5⟩⟩
  | exit id =>
    obtain ⟨W4, h1, h2, h3, h4, h5⟩ := fin (some (.exit id)) W3 hp.1
    exact ⟨_, W4, h1, .inr ⟨rfl, .exit id, hIx _ _ _ _ hp.2 h2, h4, h5⟩⟩
  | goto t =>
    obtain ⟨W4, h1, h2, h3, h4, h5⟩ := fin (some (.goto t)) W3 hp.1
    exact ⟨_, W4, h1, .inr ⟨rfl, .goto t, hIx _ _ _ _ hp.2 h2, h4, h5⟩⟩
  | panic ch => exact hp.elim
  | outgrown => exact hp.elim
/-- The statement. -/
theorem range_told (hg : a.eval g = .func (.func gf) #[] lb) (eg : ∀ args w, (callFunc gf args).run P w = .ok (.enter gf args) w) (hps : ∀ x, (encs x).size = ps.size) (hn : 1 ≤ n) (hBs : Bs < w.heap.size)
    {I : List α → World → Prop} {Ix : Code → List α → World → Prop} {T : List α → α → World → Prop} {S : List α → Prop} (hseq : Tells (n - 1) P gf lb encs (w.heap.size + 2) Bs T S w)
    (hI : ∀ s A A', I s A → Nb w.heap.size A A' → I s A') (hIx : ∀ c s A A', Ix c s A → Nb w.heap.size A A' → Ix c s A') (hT : ∀ s x A A', T s x A → Nb w.heap.size A A' → T s x A') (h0 : I [] w) {Ax : α → Act → World → Prop} (hAx : ∀ x a' A A', Ax x a' A → Nb w.heap.size A A' → Ax x a' A')
    (hassign : ∀ (l : Nat) (x : α) (W : World) (K : Act → World → Prop), w.heap.size ≤ W.heap.size → (∀ a' W', Below W.heap.size W W' → Ax x a' W' → K a' W') →
      assign.wpIn (Fence.wide.inRound l) (n - 1 - 1) P (Exit.then K (fun _ _ _ => False)) { tmps := (ps.zip (encs x)).foldl (fun t (p, v) => t.setIfInBounds p v) a.tmps, defers := [] } W)
    (hbody : ∀ (l : Nat) (pre : List α) (x : α) (a' : Act) (W : World), I pre W → T pre x W → Ax x a' W → body.wpIn (Fence.wide.inRound l) (n - 1 - 1) P (toldPost w.heap.size Bs I Ix (pre ++ [x]) W) a' W)
    (hdone : ∀ (D : Nat) (xs : List α) (W : World), w.heap.size ≤ D → S xs → I xs W → W.heap[D]? = some (.deferred (some [])) → Q .normal { a with defers := { target := .collected D, args := #[] } :: a.defers } W)
    (hstop : ∀ (D : Nat) (c : Code) (pre : List α) (W : World), w.heap.size ≤ D → Ix c pre W → W.heap[D]? = some (.deferred (some [])) → c.wpIn Fence.wide n P Q { a with defers := { target := .collected D, args := #[] } :: a.defers } W) :
    (Code.rangeFunc g ps assign body).wpIn Fence.wide n P Q a w := by
  refine wpIn_rangeFunc fun fn _ => ?_
  obtain ⟨W1, hW1⟩ : ∃ W1, W1 = (w.alloc (.deferred (some []))).alloc (.loop (recL fn a.tmps ps assign body w.heap.size .ready none)) := ⟨_, rfl⟩
  have hl1 : W1.heap[w.heap.size + 1]? = some (.loop (recL fn a.tmps ps assign body w.heap.size .ready none)) := by
    rw [hW1]
    have := World.alloc_heap_new (w.alloc (.deferred (some []))) (.loop (recL fn a.tmps ps assign body w.heap.size .ready none))
    rwa [World.size_alloc] at this
  have hk1 : W1.heap[w.heap.size]? = some (.deferred (some [])) := by
    rw [hW1]
    exact (Below.heap_alloc _ _ _ (by simp)).trans (World.alloc_heap_new w _)
  have hb1 : Below w.heap.size w W1 := by
    rw [hW1]
    exact ((Below.refl _ w).alloc (Nat.le_refl _) _).alloc (by simp) _
  have hz1 : w.heap.size + 2 ≤ W1.heap.size := by
    rw [hW1]
    simp
  have keep : ∀ {A A' : World} {k : Nat} {o : Obj}, A.heap[k]? = some o → Below A.heap.size A A' → A'.heap[k]? = some o := fun h hb => by
    rw [hb.block _ (lt_heap h)]
    exact h
  refine ⟨w.heap.size + 1, [{ target := .collected w.heap.size, args := #[] }], W1, { target := .fn (.func gf) lb, args := #[.func (.yield (w.heap.size + 1)) #[] #[]] }, W1, gf,
    #[.func (.yield (w.heap.size + 1)) #[] #[]] ++ lb, W1, by rw [hW1]; exact run_enterLoop_outer _ _ _ _ _, by simp only [resolve, hg]; simp [go_sem], fun f' hf' => by simp [Target.leads] at hf'; exact trivial, by simp [invoke, go_sem, eg], fun _ => hn, ?_⟩
  refine (hseq (w.heap.size + 1)
    (fun pre W => I pre W ∧ W.heap[w.heap.size + 1]? = some (.loop (recL fn a.tmps ps assign body w.heap.size .ready none)) ∧ W.heap[w.heap.size]? = some (.deferred (some [])))
    (fun pre W => ∃ c, Ix c pre W ∧ W.heap[w.heap.size + 1]? = some (.loop (recL fn a.tmps ps assign body w.heap.size .done (some c))) ∧ W.heap[w.heap.size]? = some (.deferred (some [])))
    W1 hb1 hz1 (fun s A A' h hb => ⟨hI _ _ _ h.1 (Nb.ofBelow hb), keep h.2.1 hb, keep h.2.2 hb⟩)
    (fun s A A' h hb => by obtain ⟨c, h1, h2, h3⟩ := h; exact ⟨c, hIx _ _ _ _ h1 (Nb.ofBelow hb), keep h2 hb, keep h3 hb⟩)
    (fun pre x W h ht => told_round hps hBs hI hIx hT hAx hassign hbody h.1 ht h.2.1 h.2.2) ⟨hI _ _ _ h0 (Nb.ofBelow hb1), hl1, hk1⟩).mono ?_
  rintro e W2 ⟨⟨v, rfl⟩, ⟨xs, hS, hi, hl, hk⟩ | ⟨pre, c, hi, hl, hk⟩⟩
  · exact ⟨none, _, run_endLoop hl (by simp [recL]), hdone _ xs _ (Nat.le_refl _) hS (hI _ _ _ hi (Nb.put _ (by omega) hl rfl)) ((World.putObj_heap_other (by omega)).trans hk)⟩
  · exact ⟨some c, _, run_endLoop hl (by simp [recL]), hstop _ c pre _ (Nat.le_refl _) (hIx _ _ _ _ hi (Nb.put _ (by omega) hl rfl)) ((World.putObj_heap_other (by omega)).trans hk)⟩
end
end Go.Proofs.YtklfnphkepfmaaaGreatDoor
