/- A range over a function whose iterator tells the round more than the value that it hands over (what lies behind an error, say): the law of the statement, in the wide fence. -/
import Derived.WalkKit
import Derived.RangeFuncBox
import Derived.RangeFuncNested
import Derived.RangeFuncCalls
import Derived.RangeFuncLeaves
import Derived.Test.YtnoggmeffindbabGreatDoorQRBZ
import Derived.Test.YtnoggmeffindbabGreatDoorGrMem
import Derived.Test.YtnoggmeffindbabGreatDoorKArAlloc
import Derived.Test.YtnoggmeffindbabGreatDoorQRFZ
namespace Go.Proofs.YtnoggmeffindbabGreatDoor
open Go.RowKit

/-- New blocks have come; of those from B on, only such as are no cells may have turned. -/
structure Nb (B : Nat) (A A' : World) : Prop where
  os : A'.os = A.os
  tape : A'.tape = A.tape
  output : A'.output = A.output
  size : A.heap.size ≤ A'.heap.size
  block : ∀ (k : Nat) (o : Obj), A.heap[k]? = some o → (k < B ∨ o.isCells = true) → A'.heap[k]? = some o
theorem lt_heap {w : World} {b : Nat} {o : Obj} (h : w.heap[b]? = some o) : b < w.heap.size := (Array.getElem?_eq_some_iff.1 h).1
theorem Nb.ofBelow {B : Nat} {A A' : World} (h : Below A.heap.size A A') : Nb B A A' :=
  ⟨h.os, h.tape, h.output, h.size, fun k o hk _ => by rw [h.block k (lt_heap hk)]; exact hk⟩
theorem Nb.put {B : Nat} {A : World} {l : Nat} {o : Obj} (o' : Obj) (hB : B ≤ l) (hl : A.heap[l]? = some o) (ho : o.isCells = false) : Nb B A (A.putObj l o') :=
  ⟨rfl, rfl, rfl, by simp, fun k u hk hu => by
    have hne : k ≠ l := fun e => by
      subst e
      rw [hl] at hk
      obtain rfl := Option.some.inj hk
      rcases hu with h | h
      · omega
      · rw [ho] at h
        cases h
    exact (World.putObj_heap_other hne).trans hk⟩
theorem Nb.below {B : Nat} {W A A' : World} {n : Nat} (h : Nb B A A') (hb : Below n W A) (hn : n ≤ B) (hW : n ≤ W.heap.size) : Below n W A' :=
  ⟨h.os.trans hb.os, h.tape.trans hb.tape, h.output.trans hb.output, Nat.le_trans hb.size h.size, fun k hk => by
    have hkA : k < A.heap.size := by
      have := hb.size
      omega
    have e : A.heap[k]? = some A.heap[k] := Array.getElem?_eq_getElem hkA
    rw [h.block k _ e (Or.inl (by omega)), ← e]
    exact hb.block k hk⟩
/-- These blocks stay as they are. -/
def Kept (B Bs : Nat) (W W' : World) : Prop := W.heap.size ≤ W'.heap.size ∧ ∀ k, (k = Bs ∨ B ≤ k) → k < W.heap.size → W'.heap[k]? = W.heap[k]?
theorem Kept.refl (B Bs : Nat) (W : World) : Kept B Bs W W := ⟨Nat.le_refl _, fun _ _ _ => rfl⟩
theorem Kept.trans {B Bs : Nat} {X Y Z : World} (h : Kept B Bs X Y) (k : Kept B Bs Y Z) : Kept B Bs X Z :=
  ⟨Nat.le_trans h.1 k.1, fun i hi hl => (k.2 i hi (Nat.lt_of_lt_of_le hl h.1)).trans (h.2 i hi hl)⟩
theorem Kept.ofBelow {B Bs : Nat} {W W' : World} (h : Below W.heap.size W W') : Kept B Bs W W' := ⟨h.size, fun k _ hl => h.block k hl⟩
/-- How a round's body may be left. -/
def toldPost {α : Type} (B Bs : Nat) (I : List α → World → Prop) (Ix : Code → List α → World → Prop) (xs : List α) (W : World) : Exit → Act → World → Prop
  | .normal, _, W' => Kept B Bs W W' ∧ I xs W'
  | .ret, _, W' => Kept B Bs W W' ∧ Ix .ret xs W'
  | .exit id, _, W' => Kept B Bs W W' ∧ Ix (.exit id) xs W'
  | .goto t, _, W' => Kept B Bs W W' ∧ Ix (.goto t) xs W'
  | .panic _, _, _ => False
  | .outgrown, _, _ => False
/-- What an iterator owes: it asks the round only at what 'T' says, its own blocks being kept; it ends by itself ('S') or where a round has left. -/
def Tells {α : Type} (n : Nat) (P : Program) (gf : Nat) (lb : Array Value) (encs : α → Array Value) (B Bs : Nat) (T : List α → α → World → Prop) (S : List α → Prop) (w : World) : Prop :=
  ∀ (l : Nat) (J Jx : List α → World → Prop) (W : World), Below w.heap.size w W → B ≤ W.heap.size → (∀ s A A', J s A → Below A.heap.size A A' → J s A') → (∀ s A A', Jx s A → Below A.heap.size A A' → Jx s A') →
    (∀ pre x W1, J pre W1 → T pre x W1 → YieldAt Fence.wide (n - 1) P l (encs x) W1 fun e W' =>
      (e = .returned (.bool true) ∧ J (pre ++ [x]) W' ∧ Kept B Bs W1 W') ∨ (e = .returned (.bool false) ∧ Jx (pre ++ [x]) W')) → J [] W →
    CallsIn Fence.wide n P gf (#[.func (.yield l) #[] #[]] ++ lb) W fun e W' => (∃ v, e = .returned v) ∧ ((∃ xs, S xs ∧ J xs W') ∨ ∃ pre, Jx pre W')
section
variable {α : Type} {n : Nat} {P : Program} {g : Operand} {ps : Array Tmp} {assign body : Code} {Q : Exit → Act → World → Prop} {a : Act} {w : World} {gf : Nat} {lb : Array Value} {encs : α → Array Value} {Bs : Nat}
/-- The loop's own record. -/
def recL (fn : FuncId) (tmps : Array Value) (ps : Array Tmp) (assign body : Code) (D : Nat) (st : LoopState) (pe : Option Code) : Loop := { state := st, pending := pe, fn, tmps, params := ps, assign, body, defers := D }
/-- One round, asked of the body. -/
theorem told_round {fn : FuncId} {I : List α → World → Prop} {Ix : Code → List α → World → Prop} {T : List α → α → World → Prop} (hps : ∀ x, (encs x).size = ps.size) (hBs : Bs < w.heap.size)
    (hI : ∀ s A A', I s A → Nb w.heap.size A A' → I s A') (hIx : ∀ c s A A', Ix c s A → Nb w.heap.size A A' → Ix c s A') (hT : ∀ s x A A', T s x A → Nb w.heap.size A A' → T s x A') {Ax : α → Act → World → Prop} (hAx : ∀ x a' A A', Ax x a' A → Nb w.heap.size A A' → Ax x a' A')
    (hassign : ∀ (l : Nat) (x : α) (W : World) (K : Act → World → Prop), w.heap.size ≤ W.heap.size → (∀ a' W', Below W.heap.size W W' → Ax x a' W' → K a' W') →
      assign.wpIn (Fence.wide.inRound l) n P (Exit.then K (fun _ _ _ => False)) { tmps := (ps.zip (encs x)).foldl (fun t (p, v) => t.setIfInBounds p v) a.tmps, defers := [] } W)
    (hbody : ∀ (l : Nat) (pre : List α) (x : α) (a' : Act) (W : World), I pre W → T pre x W → Ax x a' W → body.wpIn (Fence.wide.inRound l) n P (toldPost w.heap.size Bs I Ix (pre ++ [x]) W) a' W)
    {pre : List α} {x : α} {W : World} (hi : I pre W) (ht : T pre x W) (hl : W.heap[w.heap.size + 1]? = some (.loop (recL fn a.tmps ps assign body w.heap.size .ready none))) (hk : W.heap[w.heap.size]? = some (.deferred (some []))) :
    YieldAt Fence.wide n P (w.heap.size + 1) (encs x) W fun e W' =>
      (e = .returned (.bool true) ∧ (I (pre ++ [x]) W' ∧ W'.heap[w.heap.size + 1]? = some (.loop (recL fn a.tmps ps assign body w.heap.size .ready none)) ∧ W'.heap[w.heap.size]? = some (.deferred (some []))) ∧ Kept (w.heap.size + 2) Bs W W') ∨
      (e = .returned (.bool false) ∧ ∃ c, Ix c (pre ++ [x]) W' ∧ W'.heap[w.heap.size + 1]? = some (.loop (recL fn a.tmps ps assign body w.heap.size .done (some c))) ∧ W'.heap[w.heap.size]? = some (.deferred (some []))) := by
  refine ⟨fn, _, assign, body, run_yield hl (hps x), roundIn_of_wpIn trivial (hassign _ x W _ (by have := lt_heap hk; omega) fun a' W0 hb0 hax => ?_)⟩
  have hl0 : W0.heap[w.heap.size + 1]? = some (.loop (recL fn a.tmps ps assign body w.heap.size .ready none)) := by rw [hb0.block _ (lt_heap hl)]; exact hl
  have hk0 : W0.heap[w.heap.size]? = some (.deferred (some [])) := by rw [hb0.block _ (lt_heap hk)]; exact hk
  have hn0 : Nb w.heap.size W W0 := Nb.ofBelow hb0
  have hK0 : Kept (w.heap.size + 2) Bs W W0 := Kept.ofBelow hb0
  refine ⟨_, run_beginRound hl0 rfl, ?_⟩
  have hlt := lt_heap hl0
  obtain ⟨W1, hW1⟩ : ∃ W1, W1 = W0.putObj (w.heap.size + 1) (.loop { recL fn a.tmps ps assign body w.heap.size .ready none with state := .busy }) := ⟨_, rfl⟩
  have hl1 : W1.heap[w.heap.size + 1]? = some (.loop (recL fn a.tmps ps assign body w.heap.size .busy none)) := by rw [hW1]; exact World.putObj_heap_same hlt
  have hk1 : W1.heap[w.heap.size]? = some (.deferred (some [])) := by rw [hW1]; exact (World.putObj_heap_other (by omega)).trans hk0
  have hn1 : Nb w.heap.size W0 W1 := by rw [hW1]; exact Nb.put _ (by omega) hl0 rfl
  have hz1 : W1.heap.size = W0.heap.size := by rw [hW1]; simp
  have hK1 : Kept (w.heap.size + 2) Bs W W1 := hK0.trans ⟨by omega, fun k hk' _ => by rw [hW1]; exact World.putObj_heap_other (by omega)⟩
  rw [← hW1]
  have fin : ∀ (jump : Option Code) (W3 : World), Kept w.heap.size Bs W1 W3 → ∃ W4, (Instr.endRound (w.heap.size + 1) jump).run P W3 = .ok (.bool jump.isNone) W4 ∧ Nb w.heap.size W3 W4 ∧ Kept (w.heap.size + 2) Bs W W4 ∧
      W4.heap[w.heap.size + 1]? = some (.loop (recL fn a.tmps ps assign body w.heap.size (if jump.isNone then .ready else .done) jump)) ∧ W4.heap[w.heap.size]? = some (.deferred (some [])) := fun jump W3 hk3 => by
    have hl3 : W3.heap[w.heap.size + 1]? = some (.loop (recL fn a.tmps ps assign body w.heap.size .busy none)) := (hk3.2 _ (Or.inr (by omega)) (by omega)).trans hl1
    have hd3 : W3.heap[w.heap.size]? = some (.deferred (some [])) := (hk3.2 _ (Or.inr (Nat.le_refl _)) (by omega)).trans hk1
    refine ⟨_, run_endRound jump hl3, Nb.put _ (by omega) hl3 rfl, hK1.trans (Kept.trans ⟨hk3.1, fun k hk' hlk => hk3.2 k (by omega) hlk⟩ ⟨by simp, fun k hk' _ => World.putObj_heap_other (by omega)⟩), World.putObj_heap_same (lt_heap hl3), (World.putObj_heap_other (by omega)).trans hd3⟩
  refine wpIn_mono (hbody _ pre x a' W1 (hI _ _ _ (hI _ _ _ hi hn0) hn1) (hT _ _ _ _ (hT _ _ _ _ ht hn0) hn1) (hAx _ _ _ _ hax hn1)) ?_
  rintro e a3 W3 hp
  cases e with
  | normal =>
    obtain ⟨W4, h1, h2, h3, h4, h5⟩ := fin none W3 hp.1
    exact ⟨_, W4, h1, .inl ⟨rfl, ⟨hI _ _ _ hp.2 h2, h4, h5⟩, h3⟩⟩
  | ret =>
    obtain ⟨W4, h1, h2, h3, h4, h5⟩ := fin (some .ret) W3 hp.1
    exact ⟨_, W4, h1, .inr ⟨rfl, .ret, hIx _ _ _ _ hp.2 h2, h4, h5⟩⟩
  | exit id =>
    obtain ⟨W4, h1, h2, h3, h4, h5⟩ := fin (some (.exit id)) W3 hp.1
    exact ⟨_, W4, h1, .inr ⟨rfl, .exit id, hIx _ _ _ _ hp.2 h2, h4, h5⟩⟩
  | goto t =>
    obtain ⟨W4, h1, h2, h3, h4, h5⟩ := fin (some (.goto t)) W3 hp.1
    exact ⟨_, W4, h1, .inr ⟨rfl, .goto t, hIx _ _ _ _ hp.2 h2, h4, h5⟩⟩
  | panic ch => exact hp.elim
  | outgrown => exact hp.elim
/-- The statement. -/
theorem range_told (hg : a.eval g = .func (.func gf) #[] lb) (eg : ∀ args w, (callFunc gf args).run P w = .ok (.enter gf args) w) (hps : ∀ x, (encs x).size = ps.size) (hn : 1 ≤ n) (hBs : Bs < w.heap.size)
    {I : List α → World → Prop} {Ix : Code → List α → World → Prop} {T : List α → α → World → Prop} {S : List α → Prop} (hseq : Tells (n - 1) P gf lb encs (w.heap.size + 2) Bs T S w)
    (hI : ∀ s A A', I s A → Nb w.heap.size A A' → I s A') (hIx : ∀ c s A A', Ix c s A → Nb w.heap.size A A' → Ix c s A') (hT : ∀ s x A A', T s x A → Nb w.heap.size A A' → T s x A') (h0 : I [] w) {Ax : α → Act → World → Prop} (hAx : ∀ x a' A A', Ax x a' A → Nb w.heap.size A A' → Ax x a' A')
    (hassign : ∀ (l : Nat) (x : α) (W : World) (K : Act → World → Prop), w.heap.size ≤ W.heap.size → (∀ a' W', Below W.heap.size W W' → Ax x a' W' → K a' W') →
      assign.wpIn (Fence.wide.inRound l) (n - 1 - 1) P (Exit.then K (fun _ _ _ => False)) { tmps := (ps.zip (encs x)).foldl (fun t (p, v) => t.setIfInBounds p v) a.tmps, defers := [] } W)
    (hbody : ∀ (l : Nat) (pre : List α) (x : α) (a' : Act) (W : World), I pre W → T pre x W → Ax x a' W → body.wpIn (Fence.wide.inRound l) (n - 1 - 1) P (toldPost w.heap.size Bs I Ix (pre ++ [x]) W) a' W)
    (hdone : ∀ (D : Nat) (xs : List α) (W : World), w.heap.size ≤ D → S xs → I xs W → W.heap[D]? = some (.deferred (some [])) → Q .normal { a with defers := { target := .collected D, args := #[] } :: a.defers } W)
    (hstop : ∀ (D : Nat) (c : Code) (pre : List α) (W : World), w.heap.size ≤ D → Ix c pre W → W.heap[D]? = some (.deferred (some [])) → c.wpIn Fence.wide n P Q { a with defers := { target := .collected D, args := #[] } :: a.defers } W) :
    (Code.rangeFunc g ps assign body).wpIn Fence.wide n P Q a w := by
  refine wpIn_rangeFunc fun fn _ => ?_
  obtain ⟨W1, hW1⟩ : ∃ W1, W1 = (w.alloc (.deferred (some []))).alloc (.loop (recL fn a.tmps ps assign body w.heap.size .ready none)) := ⟨_, rfl⟩
  have hl1 : W1.heap[w.heap.size + 1]? = some (.loop (recL fn a.tmps ps assign body w.heap.size .ready none)) := by
    rw [hW1]
    have := World.alloc_heap_new (w.alloc (.deferred (some []))) (.loop (recL fn a.tmps ps assign body w.heap.size .ready none))
    rwa [World.size_alloc] at this
  have hk1 : W1.heap[w.heap.size]? = some (.deferred (some [])) := by
    rw [hW1]
    exact (Below.heap_alloc _ _ _ (by simp)).trans (World.alloc_heap_new w _)
  have hb1 : Below w.heap.size w W1 := by
    rw [hW1]
    exact ((Below.refl _ w).alloc (Nat.le_refl _) _).alloc (by simp) _
  have hz1 : w.heap.size + 2 ≤ W1.heap.size := by
    rw [hW1]
    simp
  have keep : ∀ {A A' : World} {k : Nat} {o : Obj}, A.heap[k]? = some o → Below A.heap.size A A' → A'.heap[k]? = some o := fun h hb => by
    rw [hb.block _ (lt_heap h)]
    exact h
  refine ⟨w.heap.size + 1, [{ target := .collected w.heap.size, args := #[] }], W1, { target := .fn (.func gf) lb, args := #[.func (.yield (w.heap.size + 1)) #[] #[]] }, W1, gf,
    #[.func (.yield (w.heap.size + 1)) #[] #[]] ++ lb, W1, by rw [hW1]; exact run_enterLoop_outer _ _ _ _ _, by simp only [resolve, hg]; simp [go_sem], fun f' hf' => by simp [Target.leads] at hf'; exact trivial, by simp [invoke, go_sem, eg], fun _ => hn, ?_⟩
  refine (hseq (w.heap.size + 1)
    (fun pre W => I pre W ∧ W.heap[w.heap.size + 1]? = some (.loop (recL fn a.tmps ps assign body w.heap.size .ready none)) ∧ W.heap[w.heap.size]? = some (.deferred (some [])))
    (fun pre W => ∃ c, Ix c pre W ∧ W.heap[w.heap.size + 1]? = some (.loop (recL fn a.tmps ps assign body w.heap.size .done (some c))) ∧ W.heap[w.heap.size]? = some (.deferred (some [])))
    W1 hb1 hz1 (fun s A A' h hb => ⟨hI _ _ _ h.1 (Nb.ofBelow hb), keep h.2.1 hb, keep h.2.2 hb⟩)
    (fun s A A' h hb => by obtain ⟨c, h1, h2, h3⟩ := h; exact ⟨c, hIx _ _ _ _ h1 (Nb.ofBelow hb), keep h2 hb, keep h3 hb⟩)
    (fun pre x W h ht => told_round hps hBs hI hIx hT hAx hassign hbody h.1 ht h.2.1 h.2.2) ⟨hI _ _ _ h0 (Nb.ofBelow hb1), hl1, hk1⟩).mono ?_
  rintro e W2 ⟨⟨v, rfl⟩, ⟨xs, hS, hi, hl, hk⟩ | ⟨pre, c, hi, hl, hk⟩⟩
  · exact ⟨none, _, run_endLoop hl (by simp [recL]), hdone _ xs _ (Nat.le_refl _) hS (hI _ _ _ hi (Nb.put _ (by omega) hl rfl)) ((World.putObj_heap_other (by omega)).trans hk)⟩
  · exact ⟨some c, _, run_endLoop hl (by simp [recL]), hstop _ c pre _ (Nat.le_refl _) (hIx _ _ _ _ hi (Nb.put _ (by omega) hl rfl)) ((World.putObj_heap_other (by omega)).trans hk)⟩
end
end Go.Proofs.YtnoggmeffindbabGreatDoor

/- A range over a function whose iterator reads memory of its own: the law of the statement, in the wide fence. -/
namespace Go.Proofs.YtnoggmeffindbabGreatDoor
open Go.RowKit

/-- These blocks stay as they are. -/
def KeptP (B : Nat) (Ks : Nat → Prop) (W W' : World) : Prop := W.heap.size ≤ W'.heap.size ∧ ∀ k, (Ks k ∨ B ≤ k) → k < W.heap.size → W'.heap[k]? = W.heap[k]?
theorem KeptP.refl (B : Nat) (Ks : Nat → Prop) (W : World) : KeptP B Ks W W := ⟨Nat.le_refl _, fun _ _ _ => rfl⟩
theorem KeptP.trans {B : Nat} {Ks : Nat → Prop} {X Y Z : World} (h : KeptP B Ks X Y) (k : KeptP B Ks Y Z) : KeptP B Ks X Z :=
  ⟨Nat.le_trans h.1 k.1, fun i hi hl => (k.2 i hi (Nat.lt_of_lt_of_le hl h.1)).trans (h.2 i hi hl)⟩
theorem KeptP.ofBelow {B : Nat} {Ks : Nat → Prop} {W W' : World} (h : Below W.heap.size W W') : KeptP B Ks W W' := ⟨h.size, fun k _ hl => h.block k hl⟩
/-- How a round's body may be left. -/
def toldPostP {α : Type} (B : Nat) (Ks : Nat → Prop) (I : List α → World → Prop) (Ix : Code → List α → World → Prop) (xs : List α) (W : World) : Exit → Act → World → Prop
  | .normal, _, W' => KeptP B Ks W W' ∧ I xs W'
  | .ret, _, W' => KeptP B Ks W W' ∧ Ix .ret xs W'
  | .exit id, _, W' => KeptP B Ks W W' ∧ Ix (.exit id) xs W'
  | .goto t, _, W' => KeptP B Ks W W' ∧ Ix (.goto t) xs W'
  | .panic _, _, _ => False
  | .outgrown, _, _ => False
/-- What an iterator owes: it asks the round only at what 'T' says, its own blocks being kept; it ends by itself ('S') or where a round has left. -/
def TellsP {α : Type} (n : Nat) (P : Program) (gf : Nat) (lb : Array Value) (encs : α → Array Value) (B : Nat) (Ks : Nat → Prop) (T : List α → α → World → Prop) (S : List α → Prop) (w : World) : Prop :=
  ∀ (l : Nat) (J Jx : List α → World → Prop) (W : World), Below w.heap.size w W → B ≤ W.heap.size → (∀ s A A', J s A → Below A.heap.size A A' → J s A') → (∀ s A A', Jx s A → Below A.heap.size A A' → Jx s A') →
    (∀ pre x W1, J pre W1 → T pre x W1 → YieldAt Fence.wide (n - 1) P l (encs x) W1 fun e W' =>
      (e = .returned (.bool true) ∧ J (pre ++ [x]) W' ∧ KeptP B Ks W1 W') ∨ (e = .returned (.bool false) ∧ Jx (pre ++ [x]) W')) → J [] W →
    CallsIn Fence.wide n P gf (#[.func (.yield l) #[] #[]] ++ lb) W fun e W' => (∃ v, e = .returned v) ∧ ((∃ xs, S xs ∧ J xs W') ∨ ∃ pre, Jx pre W')
section
variable {α : Type} {n : Nat} {P : Program} {g : Operand} {ps : Array Tmp} {assign body : Code} {Q : Exit → Act → World → Prop} {a : Act} {w : World} {gf : Nat} {lb : Array Value} {encs : α → Array Value} {Ks : Nat → Prop}
/-- One round, asked of the body. -/
theorem told_roundP {fn : FuncId} {I : List α → World → Prop} {Ix : Code → List α → World → Prop} {T : List α → α → World → Prop} (hps : ∀ x, (encs x).size = ps.size) (hBs : ∀ k, Ks k → k < w.heap.size)
    (hI : ∀ s A A', I s A → Nb w.heap.size A A' → I s A') (hIx : ∀ c s A A', Ix c s A → Nb w.heap.size A A' → Ix c s A') (hT : ∀ s x A A', T s x A → Nb w.heap.size A A' → T s x A') {Ax : α → Act → World → Prop} (hAx : ∀ x a' A A', Ax x a' A → Nb w.heap.size A A' → Ax x a' A')
    (hassign : ∀ (l : Nat) (x : α) (W : World) (K : Act → World → Prop), w.heap.size ≤ W.heap.size → (∀ a' W', Below W.heap.size W W' → Ax x a' W' → K a' W') →
      assign.wpIn (Fence.wide.inRound l) n P (Exit.then K (fun _ _ _ => False)) { tmps := (ps.zip (encs x)).foldl (fun t (p, v) => t.setIfInBounds p v) a.tmps, defers := [] } W)
    (hbody : ∀ (l : Nat) (pre : List α) (x : α) (a' : Act) (W : World), I pre W → T pre x W → Ax x a' W → body.wpIn (Fence.wide.inRound l) n P (toldPostP w.heap.size Ks I Ix (pre ++ [x]) W) a' W)
    {pre : List α} {x : α} {W : World} (hi : I pre W) (ht : T pre x W) (hl : W.heap[w.heap.size + 1]? = some (.loop (recL fn a.tmps ps assign body w.heap.size .ready none))) (hk : W.heap[w.heap.size]? = some (.deferred (some []))) :
    YieldAt Fence.wide n P (w.heap.size + 1) (encs x) W fun e W' =>
      (e = .returned (.bool true) ∧ (I (pre ++ [x]) W' ∧ W'.heap[w.heap.size + 1]? = some (.loop (recL fn a.tmps ps assign body w.heap.size .ready none)) ∧ W'.heap[w.heap.size]? = some (.deferred (some []))) ∧ KeptP (w.heap.size + 2) Ks W W') ∨
      (e = .returned (.bool false) ∧ ∃ c, Ix c (pre ++ [x]) W' ∧ W'.heap[w.heap.size + 1]? = some (.loop (recL fn a.tmps ps assign body w.heap.size .done (some c))) ∧ W'.heap[w.heap.size]? = some (.deferred (some []))) := by
  refine ⟨fn, _, assign, body, run_yield hl (hps x), roundIn_of_wpIn trivial (hassign _ x W _ (by have := lt_heap hk; omega) fun a' W0 hb0 hax => ?_)⟩
  have hl0 : W0.heap[w.heap.size + 1]? = some (.loop (recL fn a.tmps ps assign body w.heap.size .ready none)) := by rw [hb0.block _ (lt_heap hl)]; exact hl
  have hk0 : W0.heap[w.heap.size]? = some (.deferred (some [])) := by rw [hb0.block _ (lt_heap hk)]; exact hk
  have hn0 : Nb w.heap.size W W0 := Nb.ofBelow hb0
  have hK0 : KeptP (w.heap.size + 2) Ks W W0 := KeptP.ofBelow hb0
  refine ⟨_, run_beginRound hl0 rfl, ?_⟩
  have hlt := lt_heap hl0
  obtain ⟨W1, hW1⟩ : ∃ W1, W1 = W0.putObj (w.heap.size + 1) (.loop { recL fn a.tmps ps assign body w.heap.size .ready none with state := .busy }) := ⟨_, rfl⟩
  have hl1 : W1.heap[w.heap.size + 1]? = some (.loop (recL fn a.tmps ps assign body w.heap.size .busy none)) := by rw [hW1]; exact World.putObj_heap_same hlt
  have hk1 : W1.heap[w.heap.size]? = some (.deferred (some [])) := by rw [hW1]; exact (World.putObj_heap_other (by omega)).trans hk0
  have hn1 : Nb w.heap.size W0 W1 := by rw [hW1]; exact Nb.put _ (by omega) hl0 rfl
  have hz1 : W1.heap.size = W0.heap.size := by rw [hW1]; simp
  have hK1 : KeptP (w.heap.size + 2) Ks W W1 := hK0.trans ⟨by omega, fun k hk' _ => by rw [hW1]; exact World.putObj_heap_other (by rcases hk' with h | h; have := hBs k h; omega; omega)⟩
  rw [← hW1]
  have fin : ∀ (jump : Option Code) (W3 : World), KeptP w.heap.size Ks W1 W3 → ∃ W4, (Instr.endRound (w.heap.size + 1) jump).run P W3 = .ok (.bool jump.isNone) W4 ∧ Nb w.heap.size W3 W4 ∧ KeptP (w.heap.size + 2) Ks W W4 ∧
      W4.heap[w.heap.size + 1]? = some (.loop (recL fn a.tmps ps assign body w.heap.size (if jump.isNone then .ready else .done) jump)) ∧ W4.heap[w.heap.size]? = some (.deferred (some [])) := fun jump W3 hk3 => by
    have hl3 : W3.heap[w.heap.size + 1]? = some (.loop (recL fn a.tmps ps assign body w.heap.size .busy none)) := (hk3.2 _ (Or.inr (by omega)) (by omega)).trans hl1
    have hd3 : W3.heap[w.heap.size]? = some (.deferred (some [])) := (hk3.2 _ (Or.inr (Nat.le_refl _)) (by omega)).trans hk1
    refine ⟨_, run_endRound jump hl3, Nb.put _ (by omega) hl3 rfl, hK1.trans (KeptP.trans ⟨hk3.1, fun k hk' hlk => hk3.2 k (by rcases hk' with h | h; exact Or.inl h; exact Or.inr (by omega)) hlk⟩ ⟨by simp, fun k hk' _ => World.putObj_heap_other (by rcases hk' with h | h; have := hBs k h; omega; omega)⟩), World.putObj_heap_same (lt_heap hl3), (World.putObj_heap_other (by omega)).trans hd3⟩
  refine wpIn_mono (hbody _ pre x a' W1 (hI _ _ _ (hI _ _ _ hi hn0) hn1) (hT _ _ _ _ (hT _ _ _ _ ht hn0) hn1) (hAx _ _ _ _ hax hn1)) ?_
  rintro e a3 W3 hp
  cases e with
  | normal =>
    obtain ⟨W4, h1, h2, h3, h4, h5⟩ := fin none W3 hp.1
    exact ⟨_, W4, h1, .inl ⟨rfl, ⟨hI _ _ _ hp.2 h2, h4, h5⟩, h3⟩⟩
  | ret =>
    obtain ⟨W4, h1, h2, h3, h4, h5⟩ := fin (some .ret) W3 hp.1
    exact ⟨_, W4, h1, .inr ⟨rfl, .ret, hIx _ _ _ _ hp.2 h2, h4, h5⟩⟩
  | exit id =>
    obtain ⟨W4, h1, h2, h3, h4, h5⟩ := fin (some (.exit id)) W3 hp.1
    exact ⟨_, W4, h1, .inr ⟨rfl, .exit id, hIx _ _ _ _ hp.2 h2, h4, h5⟩⟩
  | goto t =>
    obtain ⟨W4, h1, h2, h3, h4, h5⟩ := fin (some (.goto t)) W3 hp.1
    exact ⟨_, W4, h1, .inr ⟨rfl, .goto t, hIx _ _ _ _ hp.2 h2, h4, h5⟩⟩
  | panic ch => exact hp.elim
  | outgrown => exact hp.elim
/-- The statement. -/
theorem range_toldP (hg : a.eval g = .func (.func gf) #[] lb) (eg : ∀ args w, (callFunc gf args).run P w = .ok (.enter gf args) w) (hps : ∀ x, (encs x).size = ps.size) (hn : 1 ≤ n) (hBs : ∀ k, Ks k → k < w.heap.size)
    {I : List α → World → Prop} {Ix : Code → List α → World → Prop} {T : List α → α → World → Prop} {S : List α → Prop} (hseq : TellsP (n - 1) P gf lb encs (w.heap.size + 2) Ks T S w)
    (hI : ∀ s A A', I s A → Nb w.heap.size A A' → I s A') (hIx : ∀ c s A A', Ix c s A → Nb w.heap.size A A' → Ix c s A') (hT : ∀ s x A A', T s x A → Nb w.heap.size A A' → T s x A') (h0 : I [] w) {Ax : α → Act → World → Prop} (hAx : ∀ x a' A A', Ax x a' A → Nb w.heap.size A A' → Ax x a' A')
    (hassign : ∀ (l : Nat) (x : α) (W : World) (K : Act → World → Prop), w.heap.size ≤ W.heap.size → (∀ a' W', Below W.heap.size W W' → Ax x a' W' → K a' W') →
      assign.wpIn (Fence.wide.inRound l) (n - 1 - 1) P (Exit.then K (fun _ _ _ => False)) { tmps := (ps.zip (encs x)).foldl (fun t (p, v) => t.setIfInBounds p v) a.tmps, defers := [] } W)
    (hbody : ∀ (l : Nat) (pre : List α) (x : α) (a' : Act) (W : World), I pre W → T pre x W → Ax x a' W → body.wpIn (Fence.wide.inRound l) (n - 1 - 1) P (toldPostP w.heap.size Ks I Ix (pre ++ [x]) W) a' W)
    (hdone : ∀ (D : Nat) (xs : List α) (W : World), w.heap.size ≤ D → S xs → I xs W → W.heap[D]? = some (.deferred (some [])) → Q .normal { a with defers := { target := .collected D, args := #[] } :: a.defers } W)
    (hstop : ∀ (D : Nat) (c : Code) (pre : List α) (W : World), w.heap.size ≤ D → Ix c pre W → W.heap[D]? = some (.deferred (some [])) → c.wpIn Fence.wide n P Q { a with defers := { target := .collected D, args := #[] } :: a.defers } W) :
    (Code.rangeFunc g ps assign body).wpIn Fence.wide n P Q a w := by
  refine wpIn_rangeFunc fun fn _ => ?_
  obtain ⟨W1, hW1⟩ : ∃ W1, W1 = (w.alloc (.deferred (some []))).alloc (.loop (recL fn a.tmps ps assign body w.heap.size .ready none)) := ⟨_, rfl⟩
  have hl1 : W1.heap[w.heap.size + 1]? = some (.loop (recL fn a.tmps ps assign body w.heap.size .ready none)) := by
    rw [hW1]
    have := World.alloc_heap_new (w.alloc (.deferred (some []))) (.loop (recL fn a.tmps ps assign body w.heap.size .ready none))
    rwa [World.size_alloc] at this
  have hk1 : W1.heap[w.heap.size]? = some (.deferred (some [])) := by
    rw [hW1]
    exact (Below.heap_alloc _ _ _ (by simp)).trans (World.alloc_heap_new w _)
  have hb1 : Below w.heap.size w W1 := by
    rw [hW1]
    exact ((Below.refl _ w).alloc (Nat.le_refl _) _).alloc (by simp) _
  have hz1 : w.heap.size + 2 ≤ W1.heap.size := by
    rw [hW1]
    simp
  have keep : ∀ {A A' : World} {k : Nat} {o : Obj}, A.heap[k]? = some o → Below A.heap.size A A' → A'.heap[k]? = some o := fun h hb => by
    rw [hb.block _ (lt_heap h)]
    exact h
  refine ⟨w.heap.size + 1, [{ target := .collected w.heap.size, args := #[] }], W1, { target := .fn (.func gf) lb, args := #[.func (.yield (w.heap.size + 1)) #[] #[]] }, W1, gf,
    #[.func (.yield (w.heap.size + 1)) #[] #[]] ++ lb, W1, by rw [hW1]; exact run_enterLoop_outer _ _ _ _ _, by simp only [resolve, hg]; simp [go_sem], fun f' hf' => by simp [Target.leads] at hf'; exact trivial, by simp [invoke, go_sem, eg], fun _ => hn, ?_⟩
  refine (hseq (w.heap.size + 1)
    (fun pre W => I pre W ∧ W.heap[w.heap.size + 1]? = some (.loop (recL fn a.tmps ps assign body w.heap.size .ready none)) ∧ W.heap[w.heap.size]? = some (.deferred (some [])))
    (fun pre W => ∃ c, Ix c pre W ∧ W.heap[w.heap.size + 1]? = some (.loop (recL fn a.tmps ps assign body w.heap.size .done (some c))) ∧ W.heap[w.heap.size]? = some (.deferred (some [])))
    W1 hb1 hz1 (fun s A A' h hb => ⟨hI _ _ _ h.1 (Nb.ofBelow hb), keep h.2.1 hb, keep h.2.2 hb⟩)
    (fun s A A' h hb => by obtain ⟨c, h1, h2, h3⟩ := h; exact ⟨c, hIx _ _ _ _ h1 (Nb.ofBelow hb), keep h2 hb, keep h3 hb⟩)
    (fun pre x W h ht => told_roundP hps hBs hI hIx hT hAx hassign hbody h.1 ht h.2.1 h.2.2) ⟨hI _ _ _ h0 (Nb.ofBelow hb1), hl1, hk1⟩).mono ?_
  rintro e W2 ⟨⟨v, rfl⟩, ⟨xs, hS, hi, hl, hk⟩ | ⟨pre, c, hi, hl, hk⟩⟩
  · exact ⟨none, _, run_endLoop hl (by simp [recL]), hdone _ xs _ (Nat.le_refl _) hS (hI _ _ _ hi (Nb.put _ (by omega) hl rfl)) ((World.putObj_heap_other (by omega)).trans hk)⟩
  · exact ⟨some c, _, run_endLoop hl (by simp [recL]), hstop _ c pre _ (Nat.le_refl _) (hIx _ _ _ _ hi (Nb.put _ (by omega) hl rfl)) ((World.putObj_heap_other (by omega)).trans hk)⟩
end
end Go.Proofs.YtnoggmeffindbabGreatDoor

/- slices.All over a row of texts: what its iterator tells. -/
namespace Go.Proofs.YtnoggmeffindbabGreatDoor
open Go.RowKit Go.Shelf

attribute [local go_sem] Oper.semAt_some

/-- What is handed over: a number and a text. -/
def encA (x : Nat × ByteArray) : Array Value := #[.int .i64 (x.1 : Int), .string x.2]
/-- The next thing that is handed over. -/
def nextA (l : List ByteArray) (pre : List (Nat × ByteArray)) (x : Nat × ByteArray) (_ : World) : Prop := pre = upto l pre.length ∧ pre.length < l.length ∧ x = (pre.length, l.getD pre.length ⟨#[]⟩)
/-- The state between two rounds. -/
structure EA (l : List ByteArray) (b o c B Bs : Nat) (J : List (Nat × ByteArray) → World → Prop) (k : Nat) (wr : World) : Prop where
  j : J (upto l k) wr
  box : wr.heap[Bs]? = some (.cells #[.slice (some ⟨b, o, none⟩) l.length c] 51)
  row : ∀ j, j < l.length → wr.cell? ⟨b, o + j, none⟩ = some (.string (l.getD j ⟨#[]⟩))
  size : B ≤ wr.heap.size
set_option maxRecDepth 100000 in
set_option maxHeartbeats 4000000 in
theorem sall_tells (l : List ByteArray) (b o c N B Bs : Nat) (w : World) (hN : 2 ≤ N) (hl : l.length ≤ 5000) (hBs : w.heap[Bs]? = some (.cells #[.slice (some ⟨b, o, none⟩) l.length c] 51)) (hrow : ∀ j, j < l.length → w.cell? ⟨b, o + j, none⟩ = some (.string (l.getD j ⟨#[]⟩))) :
    TellsP N Tryz.prog 137 #[.pointer (some ⟨Bs, 0, none⟩)] encA B (fun k => k = Bs ∨ (l ≠ [] ∧ k = b)) (nextA l) (fun xs => xs = upto l l.length) w := by
  intro lp J Jx W hW hBW hJ hJx hY h0
  have hbx : W.heap[Bs]? = some (.cells #[.slice (some ⟨b, o, none⟩) l.length c] 51) := (hW.block _ (lt_of_block hBs)).trans hBs
  have hrw : ∀ j, j < l.length → W.cell? ⟨b, o + j, none⟩ = some (.string (l.getD j ⟨#[]⟩)) := fun j hj => (hW.cell (p := ⟨b, o + j, none⟩) (lt_of_cell (hrow j hj))).trans (hrow j hj)
  have hcb : W.cell? ⟨Bs, 0, none⟩ = some (.slice (some ⟨b, o, none⟩) l.length c) := by simp [World.cell?, hbx]
  have h1n : 1 ≤ N := by omega
  refine callsIn_of_wp Tryz.func137 rfl trivial ?_ rfl
  simp only [Tryz.ntmps137, List.size_toArray, List.length_cons, List.length_nil, Nat.reduceAdd, Nat.reduceSub, Array.replicate_succ, Array.replicate_zero, List.push_toArray, List.append_toArray, List.nil_append, List.cons_append]
  gi_wp2
  gi_loopw [7] (fun i wr => ∃ k : Nat, k ≤ l.length ∧ i = .int .i64 (k : Int) ∧ EA l b o c B Bs J k wr) (fun i _ => l.length - (intOf i).toNat)
  case atStart => exact ⟨0, Nat.zero_le _, rfl, ⟨h0, hbx, hrw, hBW⟩⟩
  case round =>
    obtain ⟨k, hk, rfl, hi⟩ := hrel
    by_cases hlt : k < l.length
    · have hcx' := hi.row k hlt
      have hup := upto_succ l k
      have hT : nextA l (upto l k) (k, l.getD k ⟨#[]⟩) wr := ⟨by rw [upto_length], by rw [upto_length]; exact hlt, by rw [upto_length]⟩
      obtain ⟨fn, tmps, assign, body, hy, hR⟩ := hY _ _ wr hi.j hT
      simp only [encA] at hy
      have hlt' : (k : Int) < (l.length : Int) := by omega
      have HI := hid hi
      have HR := hid hR
      clear hT hi hR
      obtain ⟨x, hx⟩ : ∃ x, x = l.getD k ⟨#[]⟩ := ⟨_, rfl⟩
      rw [← hx] at hcx' hup hy HR
      clear hx
      gi_wp2
      refine HR.out.mono ?_
      rintro e W3 (⟨rfl, hJ3, hk3⟩ | ⟨rfl, hJx3⟩)
      · have hb3 : W3.heap[Bs]? = some (.cells #[.slice (some ⟨b, o, none⟩) l.length c] 51) := (hk3.2 _ (Or.inl (Or.inl rfl)) (lt_of_block HI.out.box)).trans HI.out.box
        have hr3 : ∀ j, j < l.length → W3.cell? ⟨b, o + j, none⟩ = some (.string (l.getD j ⟨#[]⟩)) := fun j hj => by
          have h1 := HI.out.row j hj
          rw [World.cell?_of_block (w := wr) (a := ⟨b, o + j, none⟩) (hk3.2 b (Or.inl (Or.inr ⟨fun e => by rw [e] at hj; simp at hj, rfl⟩)) (lt_of_cell h1))]
          exact h1
        have hI3 : EA l b o c B Bs J (k + 1) W3 := ⟨by rw [hup]; exact hJ3, hb3, hr3, Nat.le_trans HI.out.size hk3.1⟩
        gi_wp2
        go_roundw
        case rel => exact ⟨k + 1, by omega, by simp, hI3⟩
        case measure => simp [intOf]; omega
      · gi_wp2
        refine bodyPost_ret (results_none rfl _ _ _) rfl ?_
        exact ⟨⟨_, rfl⟩, .inr ⟨_, hJx3⟩⟩
    · obtain rfl : k = l.length := by omega
      have hJ := hi.j
      gi_wp2
      go_end0
      exact ⟨⟨_, rfl⟩, .inl ⟨_, rfl, hJ⟩⟩
set_option maxRecDepth 100000 in
set_option maxHeartbeats 4000000 in
theorem sall_tells0 (ao : Option Addr) (c N B Bs : Nat) (w : World) (hBs : w.heap[Bs]? = some (.cells #[.slice ao 0 c] 51)) :
    TellsP N Tryz.prog 137 #[.pointer (some ⟨Bs, 0, none⟩)] encA B (fun k => k = Bs) (nextA []) (fun xs => xs = []) w := by
  intro lp J Jx W hW hBW hJ hJx hY h0
  have hbx : W.heap[Bs]? = some (.cells #[.slice ao 0 c] 51) := (hW.block _ (lt_of_block hBs)).trans hBs
  have hcb : W.cell? ⟨Bs, 0, none⟩ = some (.slice ao 0 c) := by simp [World.cell?, hbx]
  refine callsIn_of_wp Tryz.func137 rfl trivial ?_ rfl
  simp only [Tryz.ntmps137, List.size_toArray, List.length_cons, List.length_nil, Nat.reduceAdd, Nat.reduceSub, Array.replicate_succ, Array.replicate_zero, List.push_toArray, List.append_toArray, List.nil_append, List.cons_append]
  gi_wp2
  gi_loopw [7] (fun i wr => i = .int .i64 0 ∧ J [] wr) (fun _ _ => 0)
  case atStart => exact ⟨rfl, h0⟩
  case round =>
    obtain ⟨rfl, hJs⟩ := hrel
    gi_wp2
    go_end0
    exact ⟨⟨_, rfl⟩, .inl ⟨_, rfl, hJs⟩⟩
end Go.Proofs.YtnoggmeffindbabGreatDoor

/- What Fill of package arena does at every argument. -/
namespace Go.Proofs.YtnoggmeffindbabGreatDoor
open Go.RowKit

section
variable {w : World} {B p : Nat} {m : Int} {v : Value} {l : List Int}
set_option maxRecDepth 100000 in
set_option maxHeartbeats 400000 in
theorem fill_full {u : Value} {l' : List Int} (h : Ar 150 w B p m v l) (hu : Rd w u l') (hf : m < (l'.length : Int)) :
    Calls Tryz.prog 111 #[.pointer (some ⟨p, 0, none⟩), u] w fun e w' => e = .returned (.iface 126 (.pointer (some ⟨w.heap.size, 0, none⟩))) ∧ w' = w.alloc (faultAtObj 22 l'.length) := by
  have c0 := h.c0
  obtain ⟨ao, c, rfl⟩ := hu.shape
  go_enter Tryz.func111, Tryz.ntmps111
  go_wp2_with (go_at_call 90; refine (afault_any _ _ _).mono ?_; rintro e w' ⟨rfl, rfl⟩)
  go_ret
  exact ⟨rfl, rfl⟩
set_option maxRecDepth 100000 in
set_option maxHeartbeats 400000 in
theorem fill_bad {u : Value} {l' : List Int} (h : Ar 150 w B p m v l) (hu : Rd w u l') (hf : (l'.length : Int) ≤ m) {n : Nat} (hm : FirstBad l' l'.length n) :
    Calls Tryz.prog 111 #[.pointer (some ⟨p, 0, none⟩), u] w fun e w' => e = .returned (.iface 126 (.pointer (some ⟨w.heap.size, 0, none⟩))) ∧ w' = w.alloc (faultAtObj 24 n) := by
  have c0 := h.c0
  have hl : l'.length ≤ 4611686018427387904 := by have := h.m2; omega
  have hf' : ¬ m < (l'.length : Int) := by omega
  obtain ⟨ao, c, rfl⟩ := hu.shape
  go_enter Tryz.func111, Tryz.ntmps111
  go_wp2_with (go_at_call 142; refine (check_bad hu hl hm).mono ?_; rintro e w' ⟨rfl, rfl⟩)
  go_ret
  exact ⟨rfl, rfl⟩
/-- The row behind 'append(a.words[:0], words...)', stored into the field. -/
theorem fill_upd {T : TypeId} {w1 : World} {l' : List Int} {v0 v' : Value} (h : Ar T w B p m v l) (hv0 : v0.ownBlock = v.ownBlock) (hg : w.grownBy w1 v0.ownBlock) (ho : w1.ownsRow B 57 1 v' l'.length (l'.map (Value.int .u64)))
    (hat : v'.ownBlock = v0.ownBlock ∨ v'.ownBlock = some w.heap.size) (hl : (l'.length : Int) ≤ m) (hr : ∀ x ∈ l', 0 ≤ x ∧ x ≤ 18446744073709551615) : a_Upd T w (w1.setCell ⟨p, 1, none⟩ v') B p m v l' v' := by
  have hm : a_Mod (a_foot p v) w w1 := (a_Mod.refl (a_foot p v) w).grown hg (fun k e => Or.inl (a_mem_foot.2 (Or.inr (hv0 ▸ e))))
  refine a_Upd.push h hm (hg.block p h.lt (fun e => (h.row (hv0 ▸ e.symm)).2.2 rfl)) ho (fun k e => ?_) hl hr
  rcases hat with h1 | h1
  · exact Or.inl (by rw [← hv0, ← h1]; exact e)
  · rw [h1] at e; exact Or.inr (by simp at e; omega)
theorem fill_field {w1 : World} {r : Option Nat} {p : Nat} {v : Value} (h : w.grownBy w1 r) (hp : p < w.heap.size) (hne : r ≠ some p) (hc : w.cell? ⟨p, 1, none⟩ = some v) (hf : w.frozen? ⟨p, 1, none⟩ = false) :
    w1.cell? ⟨p, 1, none⟩ = some v ∧ w1.frozen? ⟨p, 1, none⟩ = false := by
  have hb := h.block p hp (Ne.symm hne)
  exact ⟨(World.cell?_of_block (w := w) (a := ⟨p, 1, none⟩) hb).trans hc, (World.frozen?_of_block (w := w) (a := ⟨p, 1, none⟩) hb).trans hf⟩
set_option maxRecDepth 100000 in
set_option maxRecDepth 100000 in
set_option maxHeartbeats 1600000 in
theorem fill_ok {u : Value} {l' : List Int} (h : Ar 150 w B p m v l) (hB : B ≤ w.heap.size) (hu : Rd w u l') (hf : (l'.length : Int) ≤ m) (hm : AllMay l' l'.length) :
    Calls Tryz.prog 111 #[.pointer (some ⟨p, 0, none⟩), u] w fun e w' => ∃ v', e = .returned .nilIface ∧ a_Upd 150 w w' B p m v l' v' := by
  obtain ⟨i0, hi, hz0, hz1, hz2⟩ := info_parts Tryz.infoU
  have c0 := h.c0
  have c1 := h.c1
  have f1 := h.f1
  have hp := h.lt
  have hmm := h.m2
  have hl : l'.length ≤ 4611686018427387904 := by omega
  have hf' : ¬ m < (l'.length : Int) := by omega
  have hne : v.ownBlock ≠ some p := fun e => (h.row e).2.2 rfl
  obtain ⟨v0, hv0, hov, hown0⟩ : ∃ v0, (v0 = .slice none 0 0 ∧ v = .slice none 0 0 ∨ ∃ g n cap, v0 = .slice (some ⟨g, 0, none⟩) 0 cap ∧ v = .slice (some ⟨g, 0, none⟩) n cap ∧ cap ≤ 9223372036854775807) ∧ v0.ownBlock = v.ownBlock ∧ w.ownsRow B 57 1 v0 0 [] := by
    rcases h.own.2 with ⟨rfl, hn⟩ | ⟨g, cap, cur, rfl, hb, hg, hc, hm, _⟩
    · exact ⟨_, Or.inl ⟨rfl, rfl⟩, rfl, World.ownsRow_nil _ _ _ _⟩
    · exact ⟨_, Or.inr ⟨g, _, cap, rfl, rfl, by simpa [maxLen] using hm⟩, rfl, by simpa using own_take h.own (Nat.zero_le _)⟩
  have hne0 : v0.ownBlock ≠ some p := by rw [hov]; exact hne
  have HM : Hid (AllMay l' l'.length) := hm
  clear hm
  have hul := hu.1
  have hurd := hu
  have HF : ∀ (v' : Value) (w1 : World), Hid (w1.ownsRow B 57 1 v' l'.length (l'.map (Value.int .u64)) → w.grownBy w1 v0.ownBlock → (v'.ownBlock = v0.ownBlock ∨ v'.ownBlock = some w.heap.size) → a_Upd 150 w (w1.setCell ⟨p, 1, none⟩ v') B p m v l' v') :=
    fun v' w1 ho hg hat => fill_upd h hov hg ho hat hf hul
  rcases hu.src with ⟨rfl, rfl⟩ | ⟨ad, c, rfl, hnews⟩
  · have HF0 : Hid (a_Upd 150 w (w.setCell ⟨p, 1, none⟩ v0) B p m v [] v0) := (HF v0 w).out (by simpa using hown0) (World.grownBy.refl _ _) (Or.inl rfl)
    clear HF
    rcases hv0 with ⟨rfl, rfl⟩ | ⟨g, n, cap, rfl, rfl, hcap⟩
    all_goals
      go_enter Tryz.func111, Tryz.ntmps111
      go_wp2_with (first
        | (go_at_call 142; refine (check_all hurd hl HM.out).mono ?_; rintro e w ⟨rfl, rfl⟩)
        | (at_builtin; refine wpList_append_own_none rfl _ _ 48 rfl B 57 i0 1 Tryz.underlying48 hi _ 0 [] rfl hown0 rfl ?_))
      go_ret
      first | exact ⟨_, rfl, HF0.out⟩ | exact ⟨rfl, _, HF0.out⟩
  · have HN : Hid (∀ j u, (l'.map (Value.int .u64))[j]? = some u → w.cell? (ad.add j) = some u) := hnews
    clear hnews
    rcases hv0 with ⟨rfl, rfl⟩ | ⟨g, n, cap, rfl, rfl, hcap⟩
    all_goals
      go_enter Tryz.func111, Tryz.ntmps111
      go_wp2_with (first
        | (go_at_call 142; refine (check_all hurd hl HM.out).mono ?_; rintro e w ⟨rfl, rfl⟩)
        | (at_builtin; refine wpList_append_own_at w rfl _ _ 48 rfl B 57 i0 (.int .u64 0) 1 8 Tryz.underlying48 hi hz0 hz1 hz2 rfl (by decide) _ 0 [] rfl hown0 ad l'.length c (l'.map (Value.int .u64)) rfl (by simp) HN.out (words_one l') (by unfold maxLen; omega) (by omega) hB ?_; intro v' w1 hown1 hgrow _ hat; obtain ⟨hc1, hf1⟩ := fill_field hgrow hp hne0 c1 f1; simp only [Nat.zero_add, List.nil_append] at hown1; have HR := (HF v' w1).out hown1 hgrow hat; have HR' : Hid (a_Upd 150 w (w1.setCell ⟨p, 1, none⟩ v') B p m _ l' v') := HR; clear HR; rcases hown1.2 with ⟨rfl, _⟩ | ⟨g', cap', cur', rfl, _⟩))
      all_goals
        go_ret
        first | exact ⟨_, rfl, HR'.out⟩ | exact ⟨rfl, _, HR'.out⟩
end
end Go.Proofs.YtnoggmeffindbabGreatDoor

/- What the calls of a nil arena answer. -/
namespace Go.Proofs.YtnoggmeffindbabGreatDoor
open Go.RowKit

set_option maxRecDepth 100000 in
set_option maxHeartbeats 400000 in
theorem top_nil (w : World) : Calls Tryz.prog 79 #[.pointer none] w fun e w' => e = .returned (.int .i64 0) ∧ w' = w := by
  go_enter Tryz.func79, Tryz.ntmps79
  go_wp2
  go_ret
  exact ⟨rfl, rfl⟩
set_option maxRecDepth 100000 in
set_option maxHeartbeats 400000 in
theorem max_nil (w : World) : Calls Tryz.prog 80 #[.pointer none] w fun e w' => e = .returned (.int .i64 65536) ∧ w' = w := by
  go_enter Tryz.func80, Tryz.ntmps80
  go_wp2
  go_ret
  exact ⟨rfl, rfl⟩
set_option maxRecDepth 100000 in
set_option maxHeartbeats 400000 in
theorem words_nil (w : World) : Calls Tryz.prog 53 #[.pointer none] w fun e w' => e = .returned (.slice none 0 0) ∧ w' = w := by
  go_enter Tryz.func53, Tryz.ntmps53
  go_wp2
  go_ret
  exact ⟨rfl, rfl⟩
set_option maxRecDepth 100000 in
set_option maxHeartbeats 400000 in
theorem holds_nil (n : Int) (w : World) : Calls Tryz.prog 145 #[.pointer none, .int .i64 n] w fun e w' => e = .returned (.bool false) ∧ w' = w := by
  by_cases hn : 0 ≤ n
  · go_enter Tryz.func145, Tryz.ntmps145
    go_wp2_with (go_at_call 79; refine (top_nil _).mono ?_; rintro e w' ⟨rfl, rfl⟩)
    go_ret
    exact ⟨w_ret_bool (by simp; omega), rfl⟩
  · go_enter Tryz.func145, Tryz.ntmps145
    go_wp2_with (go_at_call 79; refine (top_nil _).mono ?_; rintro e w' ⟨rfl, rfl⟩)
    go_ret
    exact ⟨rfl, rfl⟩
set_option maxRecDepth 100000 in
set_option maxHeartbeats 400000 in
theorem load_nil (n : Int) (w : World) : Calls Tryz.prog 116 #[.pointer none, .int .i64 n] w fun e w' => ∃ er, e = .returned (.tuple #[.int .u64 0, er]) ∧ a_Err w' er 23 n ∧ Below w.heap.size w w' := by
  go_enter Tryz.func116, Tryz.ntmps116
  go_wp2_with (first | (go_at_call 145; refine (holds_nil _ _).mono ?_; rintro e w ⟨rfl, rfl⟩) | (go_at_call 90; refine (afault_any _ _ _).mono ?_; rintro e w' ⟨rfl, rfl⟩))
  go_ret2
  exact ⟨_, rfl, err_new _ _ _ (by decide), a_below_alloc _ _⟩
set_option maxRecDepth 100000 in
set_option maxHeartbeats 400000 in
theorem alloc_nil (n : Int) (w : World) : Calls Tryz.prog 45 #[.pointer none, .int .i64 n] w fun e w' => ∃ er, e = .returned (.tuple #[.int .i64 0, er]) ∧ a_Err w' er 1 (-1) ∧ Below w.heap.size w w' := by
  go_enter Tryz.func45, Tryz.ntmps45
  go_wp2_with (go_at_call 90; refine (afault_any _ _ _).mono ?_; rintro e w' ⟨rfl, rfl⟩)
  go_ret2
  exact ⟨_, rfl, err_new _ _ _ (by decide), a_below_alloc _ _⟩
set_option maxRecDepth 100000 in
set_option maxHeartbeats 400000 in
theorem store_nil (n u : Int) (w : World) : Calls Tryz.prog 114 #[.pointer none, .int .i64 n, .int .u64 u] w fun e w' => ∃ er, e = .returned er ∧ a_Err w' er 1 (-1) ∧ Below w.heap.size w w' := by
  go_enter Tryz.func114, Tryz.ntmps114
  go_wp2_with (go_at_call 90; refine (afault_any _ _ _).mono ?_; rintro e w' ⟨rfl, rfl⟩)
  go_ret
  exact ⟨_, rfl, err_new _ _ _ (by decide), a_below_alloc _ _⟩
set_option maxRecDepth 100000 in
set_option maxHeartbeats 400000 in
theorem cut_nil (n : Int) (w : World) : Calls Tryz.prog 76 #[.pointer none, .int .i64 n] w fun e w' => ∃ er, e = .returned er ∧ a_Err w' er 1 (-1) ∧ Below w.heap.size w w' := by
  go_enter Tryz.func76, Tryz.ntmps76
  go_wp2_with (go_at_call 90; refine (afault_any _ _ _).mono ?_; rintro e w' ⟨rfl, rfl⟩)
  go_ret
  exact ⟨_, rfl, err_new _ _ _ (by decide), a_below_alloc _ _⟩
set_option maxRecDepth 100000 in
set_option maxHeartbeats 400000 in
theorem fill_nil (v : Value) (w : World) : Calls Tryz.prog 111 #[.pointer none, v] w fun e w' => ∃ er, e = .returned er ∧ a_Err w' er 1 (-1) ∧ Below w.heap.size w w' := by
  go_enter Tryz.func111, Tryz.ntmps111
  go_wp2_with (go_at_call 90; refine (afault_any _ _ _).mono ?_; rintro e w' ⟨rfl, rfl⟩)
  go_ret
  exact ⟨_, rfl, err_new _ _ _ (by decide), a_below_alloc _ _⟩
theorem alloc_two {w : World} {B p : Nat} {m : Int} {v : Value} (h : Ar 150 w B p m v []) (hB : B ≤ w.heap.size) (hm : 2 ≤ m) :
    Calls Tryz.prog 45 #[.pointer (some ⟨p, 0, none⟩), .int .i64 2] w fun e w' => ∃ v', e = .returned (.tuple #[.int .i64 0, .nilIface]) ∧ a_Upd 150 w w' B p m v [0, 8] v' :=
  (alloc_ok h hB 2 (by omega) (by simpa using hm)).mono fun e w' ⟨v', he, hU⟩ => ⟨v', by simpa using he, by simpa [frsh, List.range_succ] using hU⟩
theorem load_one {w : World} {B p : Nat} {m : Int} {v : Value} (h : Ar 150 w B p m v [0, 8]) :
    Calls Tryz.prog 116 #[.pointer (some ⟨p, 0, none⟩), .int .i64 1] w fun e w' => e = .returned (.tuple #[.int .u64 8, .nilIface]) ∧ w' = w :=
  (load_ok h 1 (by simp)).mono fun e w' ⟨he, hw⟩ => ⟨by simpa using he, hw⟩
set_option maxRecDepth 100000 in
set_option maxHeartbeats 1000000 in
theorem a_same_some (b o c b' o' c' : Nat) (l : List Int) (w : World) (hl : l.length ≤ 4611686018427387904) (hc : ∀ j, j < l.length → w.cell? ⟨b, o + j, none⟩ = some (.int .u64 (l.getD j 0))) (hc' : ∀ j, j < l.length → w.cell? ⟨b', o' + j, none⟩ = some (.int .u64 (l.getD j 0))) :
    Calls Tryz.prog 21 #[.slice (some ⟨b, o, none⟩) l.length c, .slice (some ⟨b', o', none⟩) l.length c'] w fun e w' => e = .returned (.bool true) ∧ ∃ d, w' = w.drewN d := by
  go_enter Tryz.func21, Tryz.ntmps21
  go_wp2
  go_loopw [5] (fun i wr => ∃ k : Nat, k ≤ l.length ∧ i = .int .i64 k ∧ ∃ d, wr = w.drewN d) (fun i _ => l.length - (intOf i).toNat)
  case atStart => exact ⟨0, Nat.zero_le _, rfl, 0, rfl⟩
  case round =>
    obtain ⟨k, hk, rfl, d, rfl⟩ := hrel
    by_cases hlt : k < l.length
    · have h1 := hc k hlt
      have h2 := hc' k hlt
      obtain ⟨x, hx⟩ : ∃ x, x = l.getD k 0 := ⟨_, rfl⟩
      rw [← hx] at h1 h2
      clear hc hc' hx
      have hk0 : (0 : Int) ≤ (k : Int) := by omega
      have hlt' : (k : Int) < (l.length : Int) := by omega
      go_wp2
      go_quiet (fail)
      go_wp2
      go_roundw
      case rel => exact ⟨k + 1, by omega, by go_num, _, rfl⟩
      case measure => simp [intOf]; omega
    · have hlt' : ¬ (k : Int) < (l.length : Int) := by omega
      go_wp2
      go_ret
      exact ⟨rfl, d, rfl⟩
set_option maxRecDepth 100000 in
set_option maxHeartbeats 400000 in
theorem a_same_none (ao ao' : Option Addr) (c c' : Nat) (w : World) :
    Calls Tryz.prog 21 #[.slice ao 0 c, .slice ao' 0 c'] w fun e w' => e = .returned (.bool true) ∧ w' = w := by
  go_enter Tryz.func21, Tryz.ntmps21
  go_wp2
  refine wp_loop_rounds 1 ?_
  rw [rounds_succ]
  go_wp2
  go_ret
  exact ⟨rfl, rfl⟩
theorem a_same_any {w : World} {u u' : Value} {l : List Int} (h : Rd w u l) (h' : Rd w u' l) (hl : l.length ≤ 4611686018427387904) :
    Calls Tryz.prog 21 #[u, u'] w fun e w' => e = .returned (.bool true) ∧ ∃ d, w' = w.drewN d := by
  by_cases h0 : l = []
  · subst h0
    obtain ⟨ao, c, rfl⟩ := h.shape
    obtain ⟨ao', c', rfl⟩ := h'.shape
    exact (a_same_none ao ao' c c' w).mono fun e w' ⟨he, hw⟩ => ⟨he, 0, hw⟩
  · rcases h.2 with ⟨_, h1⟩ | ⟨_, _, _, h1⟩ | ⟨b, o, c, rfl, hc⟩
    · exact absurd h1 h0
    · exact absurd h1 h0
    · rcases h'.2 with ⟨_, h1⟩ | ⟨_, _, _, h1⟩ | ⟨b', o', c', rfl, hc'⟩
      · exact absurd h1 h0
      · exact absurd h1 h0
      · exact a_same_some b o c b' o' c' l w hl hc hc'
end Go.Proofs.YtnoggmeffindbabGreatDoor

/- Package cells: what the calls of a nil heap answer. -/
namespace Go.Proofs.YtnoggmeffindbabGreatDoor
open Go.RowKit

/-- The heap that stands for a nil one. -/
abbrev nilHp : Obj := .cells #[.pointer none, .pointer none, .slice none 0 0, .slice none 0 0, .int .i64 0] 100
theorem nilHp_cells {w : World} {b : Nat} (h : w.heap[b]? = some nilHp) : (w.cell? ⟨b, 0, none⟩ = some (.pointer none) ∧ w.cell? ⟨b, 1, none⟩ = some (.pointer none) ∧ w.cell? ⟨b, 2, none⟩ = some (.slice none 0 0) ∧ w.cell? ⟨b, 3, none⟩ = some (.slice none 0 0) ∧ w.cell? ⟨b, 4, none⟩ = some (.int .i64 0)) ∧ b < w.heap.size := by
  refine ⟨⟨?_, ?_, ?_, ?_, ?_⟩, lt_of_block h⟩ <;> simp [World.cell?, h]
/-- A nil heap's fault. -/
abbrev fltP (b : Nat) : Value := .iface 126 (.pointer (some ⟨b, 0, none⟩))
theorem er_new (w : World) (c a : Int) (hc : c ≠ 0) : Er (w.alloc (faultAtObj c a)) (fltP w.heap.size) [(c, a)] := ⟨hc, w.heap.size, .nilIface, rfl, heap_alloc_new w _, rfl⟩
set_option maxHeartbeats 400000 in
theorem self_nil (w : World) :
    Calls Tryz.prog 48 #[.pointer none] w fun e w' => ∃ b, e = .returned (.pointer (some ⟨b, 0, none⟩)) ∧ w'.heap[b]? = some nilHp ∧ Below w.heap.size w w' := by
  go_enter Tryz.func48, Tryz.ntmps48
  go_wp2
  go_ret
  exact ⟨_, rfl, heap_alloc_new w _, below_alloc w _⟩
theorem load_nilb (n : Int) (w : World) : Calls Tryz.prog 116 #[.pointer none, .int .i64 n] w fun e w' => (∃ b, e = .returned (.tuple #[.int .u64 0, fltP b])) ∧ Below w.heap.size w w' := by
  refine (load_nil n w).mono ?_
  rintro e w' ⟨er, rfl, hE, hb⟩
  rcases hE with ⟨h, _⟩ | ⟨_, b, rfl, _⟩
  · exact absurd h (by decide)
  · exact ⟨⟨b, rfl⟩, hb⟩
set_option maxHeartbeats 800000 in
theorem iscell_nil (x : Int) (w : World) :
    Calls Tryz.prog 78 #[.agg #[.pointer none], .int .i64 x] w fun e w' => e = .returned (.bool false) ∧ Below w.heap.size w w' := by
  have hb := hid (below_alloc w (.cells #[.pointer none] 98))
  go_enter Tryz.func78, Tryz.ntmps78
  go_wp2_with (go_at_call 116; refine (load_nilb _ _).mono ?_; rintro e w1 ⟨⟨q, rfl⟩, hb1⟩)
  go_ret
  exact ⟨rfl, Below.next hb.out hb1⟩
set_option maxHeartbeats 800000 in
theorem hcell_nil (x : Int) (w : World) :
    Calls Tryz.prog 32 #[.pointer none, .int .i64 x] w fun e w' => e = .returned (.bool false) ∧ Below w.heap.size w w' := by
  go_enter Tryz.func32, Tryz.ntmps32
  go_wp2_with (first
    | (go_at_call 48; refine (self_nil _).mono ?_; rintro e w1 ⟨b, rfl, hx, hb1⟩; obtain ⟨⟨c0, _⟩, c5⟩ := nilHp_cells hx; clear hx)
    | (go_at_call 78; refine (iscell_nil _ _).mono ?_; rintro e w2 ⟨rfl, hb2⟩))
  go_ret
  exact ⟨rfl, Below.next hb1 hb2⟩
set_option maxHeartbeats 800000 in
theorem htop_nil (w : World) :
    Calls Tryz.prog 33 #[.pointer none] w fun e w' => e = .returned (.int .i64 0) ∧ Below w.heap.size w w' := by
  go_enter Tryz.func33, Tryz.ntmps33
  go_wp2_with (first
    | (go_at_call 48; refine (self_nil _).mono ?_; rintro e w1 ⟨b, rfl, hx, hb1⟩; obtain ⟨⟨c0, _⟩, c5⟩ := nilHp_cells hx; clear hx)
    | (go_at_call 79; refine (top_nil _).mono ?_; rintro e w2 ⟨rfl, rfl⟩))
  go_ret
  exact ⟨rfl, hb1⟩
set_option maxHeartbeats 800000 in
theorem hmax_nil (w : World) :
    Calls Tryz.prog 34 #[.pointer none] w fun e w' => e = .returned (.int .i64 65536) ∧ Below w.heap.size w w' := by
  go_enter Tryz.func34, Tryz.ntmps34
  go_wp2_with (first
    | (go_at_call 48; refine (self_nil _).mono ?_; rintro e w1 ⟨b, rfl, hx, hb1⟩; obtain ⟨⟨c0, _⟩, c5⟩ := nilHp_cells hx; clear hx)
    | (go_at_call 80; refine (max_nil _).mono ?_; rintro e w2 ⟨rfl, rfl⟩))
  go_ret
  exact ⟨rfl, hb1⟩
set_option maxHeartbeats 800000 in
theorem hpoints_nil (w : World) :
    Calls Tryz.prog 35 #[.pointer none] w fun e w' => e = .returned (.int .i64 0) ∧ Below w.heap.size w w' := by
  go_enter Tryz.func35, Tryz.ntmps35
  go_wp2_with (go_at_call 48; refine (self_nil _).mono ?_; rintro e w1 ⟨b, rfl, hx, hb1⟩; obtain ⟨⟨_, _, _, c3, _⟩, c5⟩ := nilHp_cells hx; clear hx)
  go_ret
  exact ⟨rfl, hb1⟩
set_option maxHeartbeats 800000 in
theorem hwrites_nil (w : World) :
    Calls Tryz.prog 36 #[.pointer none] w fun e w' => e = .returned (.int .i64 0) ∧ Below w.heap.size w w' := by
  go_enter Tryz.func36, Tryz.ntmps36
  go_wp2_with (go_at_call 48; refine (self_nil _).mono ?_; rintro e w1 ⟨b, rfl, hx, hb1⟩; obtain ⟨⟨_, _, _, _, c4⟩, c5⟩ := nilHp_cells hx; clear hx)
  go_ret
  exact ⟨rfl, hb1⟩
set_option maxHeartbeats 800000 in
theorem hput_nil (nv rv : Value) (w : World) :
    Calls Tryz.prog 11 #[.pointer none, .agg #[nv, rv]] w fun e w' => ∃ b, e = .returned (.tuple #[.slice none 0 0, fltP b]) ∧ Er w' (fltP b) [(1, -1)] ∧ Below w.heap.size w w' := by
  have hb := hid (below_alloc w (.cells #[nv, rv] 25))
  go_enter Tryz.func11, Tryz.ntmps11
  go_wp2_with (go_at_call 40; refine (cfault_any _ _ _).mono ?_; rintro e w1 ⟨rfl, rfl⟩)
  go_ret2
  refine ⟨_, rfl, ?_, Below.next hb.out (below_alloc _ _)⟩
  have h := er_new (w.alloc (.cells #[nv, rv] 25)) 1 (-1) (by decide)
  rw [show (w.alloc (.cells #[nv, rv] 25)).heap.size = w.heap.size + 1 by simp] at h
  exact h
set_option maxHeartbeats 800000 in
theorem hpoint_nil (w : World) :
    Calls Tryz.prog 23 #[.pointer none] w fun e w' => ∃ b, e = .returned (.tuple #[.int .i64 0, fltP b]) ∧ Er w' (fltP b) [(1, -1)] ∧ Below w.heap.size w w' := by
  go_enter Tryz.func23, Tryz.ntmps23
  go_wp2_with (go_at_call 40; refine (cfault_any _ _ _).mono ?_; rintro e w1 ⟨rfl, rfl⟩)
  go_ret2
  exact ⟨_, rfl, er_new _ _ _ (by decide), below_alloc _ _⟩
set_option maxHeartbeats 800000 in
theorem hslide_nil (v : Value) (w : World) :
    Calls Tryz.prog 24 #[.pointer none, v] w fun e w' => ∃ b, e = .returned (.tuple #[.slice none 0 0, fltP b]) ∧ Er w' (fltP b) [(1, -1)] ∧ Below w.heap.size w w' := by
  go_enter Tryz.func24, Tryz.ntmps24
  go_wp2_with (go_at_call 40; refine (cfault_any _ _ _).mono ?_; rintro e w1 ⟨rfl, rfl⟩)
  go_ret2
  exact ⟨_, rfl, er_new _ _ _ (by decide), below_alloc _ _⟩
set_option maxHeartbeats 800000 in
theorem hbind_nil (a b : Int) (w : World) :
    Calls Tryz.prog 26 #[.pointer none, .int .i64 a, .int .i64 b] w fun e w' => ∃ q, e = .returned (fltP q) ∧ Er w' (fltP q) [(1, -1)] ∧ Below w.heap.size w w' := by
  go_enter Tryz.func26, Tryz.ntmps26
  go_wp2_with (go_at_call 40; refine (cfault_any _ _ _).mono ?_; rintro e w1 ⟨rfl, rfl⟩)
  go_ret
  exact ⟨_, rfl, er_new _ _ _ (by decide), below_alloc _ _⟩
set_option maxHeartbeats 800000 in
theorem hmerge_nil (a b : Int) (w : World) :
    Calls Tryz.prog 27 #[.pointer none, .int .i64 a, .int .i64 b] w fun e w' => ∃ q, e = .returned (fltP q) ∧ Er w' (fltP q) [(1, -1)] ∧ Below w.heap.size w w' := by
  go_enter Tryz.func27, Tryz.ntmps27
  go_wp2_with (go_at_call 40; refine (cfault_any _ _ _).mono ?_; rintro e w1 ⟨rfl, rfl⟩)
  go_ret
  exact ⟨_, rfl, er_new _ _ _ (by decide), below_alloc _ _⟩
set_option maxHeartbeats 800000 in
theorem haspoint_nil (n : Int) (w : World) :
    Calls Tryz.prog 73 #[.pointer none, .int .i64 n] w fun e w' => ∃ q, e = .returned (fltP q) ∧ Er w' (fltP q) [(1, -1)] ∧ Below w.heap.size w w' := by
  go_enter Tryz.func73, Tryz.ntmps73
  go_wp2_with (go_at_call 40; refine (cfault_any _ _ _).mono ?_; rintro e w1 ⟨rfl, rfl⟩)
  go_ret
  exact ⟨_, rfl, er_new _ _ _ (by decide), below_alloc _ _⟩
set_option maxHeartbeats 800000 in
theorem hundo_nil (n : Int) (w : World) :
    Calls Tryz.prog 28 #[.pointer none, .int .i64 n] w fun e w' => ∃ q, e = .returned (fltP q) ∧ Er w' (fltP q) [(1, -1)] ∧ Below w.heap.size w w' := by
  have hb := hid (below_alloc w (.cells #[.pointer none] 27))
  go_enter Tryz.func28, Tryz.ntmps28
  go_wp2_with (go_at_call 73; refine (haspoint_nil _ _).mono ?_; rintro e w1 ⟨q, rfl, hE, hb1⟩)
  go_ret
  exact ⟨_, rfl, hE, Below.next hb.out hb1⟩
set_option maxHeartbeats 800000 in
theorem hrelease_nil (n : Int) (w : World) :
    Calls Tryz.prog 29 #[.pointer none, .int .i64 n] w fun e w' => ∃ q, e = .returned (fltP q) ∧ Er w' (fltP q) [(1, -1)] ∧ Below w.heap.size w w' := by
  go_enter Tryz.func29, Tryz.ntmps29
  go_wp2_with (go_at_call 73; refine (haspoint_nil _ _).mono ?_; rintro e w1 ⟨q, rfl, hE, hb1⟩)
  go_ret
  exact ⟨_, rfl, hE, hb1⟩
set_option maxHeartbeats 800000 in
theorem cstr_nil {w : World} {b : Nat} (hx : w.heap[b]? = some (.cells #[.pointer none] 98)) (x : Int) :
    Calls Tryz.prog 94 #[.int .i64 x, .pointer (some ⟨b, 0, none⟩)] w fun e w' => e = .returned (.bool true) ∧ Below w.heap.size w w' := by
  have c0 : w.cell? ⟨b, 0, none⟩ = some (.pointer none) := by simp [World.cell?, hx]
  have z0 := lt_of_block hx
  clear hx
  go_enter Tryz.func94, Tryz.ntmps94
  go_wp2_with (go_at_call 78; refine (iscell_nil _ _).mono ?_; rintro e w1 ⟨rfl, hb1⟩)
  go_ret
  exact ⟨rfl, hb1⟩
set_option maxRecDepth 100000 in
set_option maxHeartbeats 2000000 in
theorem checked_nil {w : World} {cv : Value} {x : Int} {cs : List Int} (hc : Ri w cv (x :: cs)) (hl : (x :: cs).length ≤ 5000) :
    Calls Tryz.prog 49 #[.agg #[.pointer none], cv] w fun e w' => ∃ q, e = .returned (fltP q) ∧ Er w' (fltP q) [(113, 0)] ∧ Below w.heap.size w w' := by
  have hb0 := below_alloc w (.cells #[.pointer none] 98)
  have hx0 := heap_alloc_new w (.cells #[.pointer none] 98)
  have hmf : ∀ (fn : Fn) (first cap : Array Value) (w : World), (Instr.makeFunc fn first cap).run Tryz.prog w = .ok (.func fn first cap) w := fun _ _ _ _ => rfl
  have hix := hid (index_ints 94 #[.pointer (some ⟨w.heap.size, 0, none⟩)] cstr_eg cv (x :: cs) (fun _ => true) (fun _ w1 => Below w.heap.size w w1 ∧ w1.heap[w.heap.size]? = some (.cells #[.pointer none] 98)) (fun _ w1 => Below w.heap.size w w1) (w.alloc (.cells #[.pointer none] 98)) hl (fun k w1 h1 => hc.below h1.1) (fun k w1 hk h1 => by
    refine (cstr_nil h1.2 ((x :: cs).getD k 0)).mono ?_
    rintro e w2 ⟨rfl, hb2⟩
    exact ⟨rfl, fun _ => Below.next h1.1 hb2, fun h => by cases h⟩) ⟨hb0, hx0⟩)
  have hlen : 0 < (x :: cs).length := by simp
  obtain ⟨ao, cc, rfl, _⟩ := hc
  clear hb0 hx0
  generalize (x :: cs).length = n at *
  go_enter Tryz.func49, Tryz.ntmps49
  go_wp2_with (first
    | (go_at_call 95; refine hix.out.mono ?_; clear hix; rintro e w1 (⟨k, hk, h1, h2, rfl, hT⟩ | ⟨h1, rfl, hI, _⟩))
    | (go_at_call 40; refine (cfault_any _ _ _).mono ?_; rintro e w2 ⟨rfl, rfl⟩))
  · have e0 : k = 0 := by
      rcases Nat.eq_zero_or_pos k with h | h
      · exact h
      · exact absurd (h1 0 h) (by simp)
    subst e0
    go_ret
    exact ⟨_, rfl, er_new _ _ _ (by decide), Below.next hT (below_alloc _ _)⟩
  · exact absurd (h1 0 hlen) (by simp)
theorem er_far {w w' : World} {q : Nat} {ev : Value} {c a : Int} {T : TypeId} {cs : Array Value} (hE : Er w ev [(c, a)]) (hx : w.heap[q]? = some (.cells cs T)) (hT : T ≠ 129) (hw : ∀ k, k ≠ q → w'.heap[k]? = w.heap[k]?) : Er w' ev [(c, a)] := by
  obtain ⟨h0, b, ev', e1, e2, e3⟩ := hE
  refine ⟨h0, b, ev', e1, ?_, e3⟩
  rw [hw]
  · exact e2
  · intro e
    subst e
    rw [e2] at hx
    injection hx with hx
    injection hx with _ hx
    exact hT hx.symm
set_option maxRecDepth 100000 in
set_option maxHeartbeats 2000000 in
theorem hlook_nil (x : Int) (w : World) :
    Calls Tryz.prog 15 #[.pointer none, .int .i64 x] w fun e w' => ∃ q, e = .returned (.tuple #[.agg #[.int .i64 0, .int .i64 0, .string ⟨#[]⟩, .int .i64 0, .slice none 0 0], fltP q]) ∧ Er w' (fltP q) [(113, 0)] ∧ Below w.heap.size w w' := by
  have hb0 := hid (below_alloc w cel0)
  have hx0 := hid (heap_alloc_new w cel0)
  go_enter Tryz.func15, Tryz.ntmps15
  go_wp2_with (first
    | (go_at_call 48; refine (self_nil _).mono ?_; rintro e w1 ⟨b, rfl, hx, hb1⟩; obtain ⟨⟨c0, _⟩, c5⟩ := nilHp_cells hx; have HX1 := hid ((hb1.block _ (by simp)).trans hx0.out); have Hb1 := hid (Below.next hb0.out hb1); clear hx hb1)
    | (go_at_call 49; have hri := ri_lit1 (heap_alloc_new w1 (.cells #[.int .i64 x] 3)); refine (checked_nil hri (by simp)).mono ?_; clear hri; rintro e w3 ⟨q, rfl, hE, hb2⟩; have HE := hid hE; have hbx := Below.next (below_alloc w1 (.cells #[.int .i64 x] 3)) hb2; have HX3 := hid ((hbx.block _ (lt_of_block HX1.out)).trans HX1.out); have Hb3 := hid (Below.next Hb1.out hbx); obtain ⟨⟨k0, k1, k2, k3, k4⟩, ⟨k5, k6, k7, k8, k9⟩, k10⟩ := cel_cells HX3.out; clear hE hb2 hbx))
  have hfin := set5C_at HX3.out (.int .i64 0) (.int .i64 0) (.string ⟨#[]⟩) (.int .i64 0) (.slice none 0 0)
  have hbf := set5C_below Hb3.out (Nat.le_refl _) (.int .i64 0) (.int .i64 0) (.string ⟨#[]⟩) (.int .i64 0) (.slice none 0 0)
  exact bodyPost_ret (ret_celE Tryz.results15 (by rfl) (by rfl) hfin) rfl ⟨q, rfl, er_far HE.out HX3.out (by decide) (fun k hk => set5C_far _ _ _ _ _ _ hk), hbf⟩
theorem set2_far (w : World) (q : Nat) (u v : Value) (k : Nat) (hk : k ≠ q) : ((w.setCell ⟨q, 0, none⟩ u).setCell ⟨q, 1, none⟩ v).heap[k]? = w.heap[k]? := by
  rw [Below.heap_setCell _ _ _ _ hk, Below.heap_setCell _ _ _ _ hk]
set_option maxRecDepth 100000 in
set_option maxHeartbeats 2000000 in
theorem hget_nil {w : World} {cv : Value} {x : Int} {cs : List Int} (hc : Ri w cv (x :: cs)) (hl : (x :: cs).length ≤ 5000) :
    Calls Tryz.prog 14 #[.pointer none, cv] w fun e w' => ∃ q, e = .returned (.tuple #[.agg #[.slice none 0 0, .slice none 0 0], fltP q]) ∧ Er w' (fltP q) [(113, 0)] ∧ Below w.heap.size w w' := by
  have hb0 := hid (below_alloc w gr0)
  have hx0 := hid (heap_alloc_new w gr0)
  have hch := hid (fun w1 (hb : Below w.heap.size w w1) => checked_nil (hc.below hb) hl)
  obtain ⟨ca, cc, rfl, _⟩ := hc
  generalize (x :: cs).length = n at *
  go_enter Tryz.func14, Tryz.ntmps14
  go_wp2_with (first
    | (go_at_call 48; refine (self_nil _).mono ?_; rintro e w1 ⟨b, rfl, hx, hb1⟩; obtain ⟨⟨c0, _⟩, c5⟩ := nilHp_cells hx; have HX1 := hid ((hb1.block _ (by simp)).trans hx0.out); have Hb1 := hid (Below.next hb0.out hb1); clear hx hb1)
    | (go_at_call 49; refine (hch.out _ Hb1.out).mono ?_; rintro e w3 ⟨q, rfl, hE, hb2⟩; have HE := hid hE; have HX3 := hid ((hb2.block _ (lt_of_block HX1.out)).trans HX1.out); have Hb3 := hid (Below.next Hb1.out hb2); obtain ⟨⟨y0, y1⟩, yf0, yf1⟩ := cblk2 HX3.out; clear hE hb2))
  have hfin := heap_setCell_same _ w.heap.size 1 _ _ (.slice none 0 0) (heap_setCell_same w3 w.heap.size 0 _ _ (.slice none 0 0) HX3.out)
  exact bodyPost_ret (ret_grE Tryz.results14 (by rfl) (by rfl) hfin) rfl ⟨q, rfl, er_far HE.out HX3.out (by decide) (fun k hk => set2_far _ _ _ _ k hk), (Hb3.out.setCell (p := ⟨w.heap.size, 0, none⟩) (Nat.le_refl _) _).setCell (p := ⟨w.heap.size, 1, none⟩) (Nat.le_refl _) _⟩
set_option maxRecDepth 100000 in
set_option maxHeartbeats 2000000 in
theorem hreach_nil {w : World} {cv : Value} {x : Int} {cs : List Int} (hc : Ri w cv (x :: cs)) (hl : (x :: cs).length ≤ 5000) :
    Calls Tryz.prog 30 #[.pointer none, cv] w fun e w' => ∃ q, e = .returned (.tuple #[.int .i64 0, fltP q]) ∧ Er w' (fltP q) [(113, 0)] ∧ Below w.heap.size w w' := by
  have hch := hid (fun w1 (hb : Below w.heap.size w w1) => checked_nil (hc.below hb) hl)
  clear hc hl
  go_enter Tryz.func30, Tryz.ntmps30
  go_wp2_with (first
    | (go_at_call 48; refine (self_nil _).mono ?_; rintro e w1 ⟨b, rfl, hx, hb1⟩; obtain ⟨⟨c0, _⟩, c5⟩ := nilHp_cells hx; clear hx)
    | (go_at_call 49; refine (hch.out _ hb1).mono ?_; rintro e w2 ⟨q, rfl, hE, hb2⟩))
  go_ret2
  exact ⟨q, rfl, hE, Below.next hb1 hb2⟩
end Go.Proofs.YtnoggmeffindbabGreatDoor
