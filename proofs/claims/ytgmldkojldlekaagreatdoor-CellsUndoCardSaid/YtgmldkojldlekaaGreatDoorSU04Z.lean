/- A region that draws its order, by one property that every operation keeps: outside of rounds, and inside the round of a range over a function; the operations are walked as outside of any fence. -/
import Derived.OrdersIn
import Derived.OwnWalkIn
import Derived.RangeFuncCalls
import Derived.Test.YtgmldkojldlekaaGreatDoorSU02Z
import Derived.Test.YtgmldkojldlekaaGreatDoorSU03Z
namespace Go.Proofs.YtgmldkojldlekaaGreatDoor
open Go.RowKit
def wpOpS (P : Program) (ops : Array Oper) (Q : Exit → Act → World → Prop) (i : Nat) (K : Act → World → Prop) (a : Act) (w : World) : Prop :=
  match ops[i]? with
  | none => K a w
  | some o => if Region.wanted o (yielded ops a.tmps) then o.wp P a w K Q else K (a.put o.dst undef) w
theorem wpOpS_step {P : Program} {ops : Array Oper} {Q : Exit → Act → World → Prop} {i : Nat} {K : Act → World → Prop} {a : Act} {w : World} {o : Oper} (ho : ops[i]? = some o) (h : ∀ K' : Act → World → Prop, (∀ a w, K a w → K' a w) → if Region.wanted o (yielded ops a.tmps) then o.wp P a w K' Q else K' (a.put o.dst undef) w) : wpOpS P ops Q i K a w := by
  unfold wpOpS
  rw [ho]
  exact h K (fun _ _ h => h)
theorem upon_wide {r n : Nat} {P : Program} {o : Oper} {a : Act} {K K' : Act → World → Prop} {Q : Exit → Act → World → Prop} (hK : ∀ a w, K a w → K' a w) : ∀ {res : Result Next}, o.upon P a K Q res → o.uponIn (Fence.wide.inRound r) n P a K' Q res := by
  intro res h
  match res, h with
  | .ok (.value v) w', h => exact hK _ _ h
  | .ok .skip w', h => exact hK _ _ h
  | .ok (.defer d) w', h => exact hK _ _ h
  | .ok (.enter f args) w', h =>
    refine ⟨fun h0 => by simp [Fence.inRound, Fence.wide] at h0, CallsIn.inRound r (callsIn_wide.2 (Calls.mono h ?_))⟩
    rintro (v | ch | _) w2 h2
    · exact hK _ _ h2
    · exact h2
    · exact h2
  | .ok (.row row args) w', h =>
    refine ⟨fun h0 => by simp [Fence.inRound, Fence.wide] at h0, fun c cs _ => ?_⟩
    obtain ⟨v, w2, h1, h2⟩ := h c cs
    exact ⟨v, w2, hK _ _ h1, stepsIn_wide.2 h2⟩
  | .ok (.round l f tmps assign body) w', h => exact h.elim
  | .halt (.panic v) w', h => exact h
theorem wpAnyIn_inv {r n : Nat} {P : Program} {md : Region.Mode} {ops : Array Oper} {Q : Exit → Act → World → Prop} (hd : ∀ (i : Nat) o, ops[i]? = some o → ∀ c, o.op ≠ .defer c) (I : Array Bool → Act → World → Prop)
    (hstep : ∀ l a w, I l a w → ∀ i, i ∈ Region.ready md ops l → wpOpS P ops Q i (I (l.setIfInBounds i true)) a w)
    (hdone : ∀ l a w, I l a w → Region.ready md ops l = [] → Q .normal a w) :
    ∀ (fuel : Nat) (l : Array Bool) (a : Act) (w : World), l.toList.count false ≤ fuel → I l a w → wpAnyIn (Fence.wide.inRound r) n P md ops Q fuel l a w
  | 0, l, a, w, hf, hI => by
    have h0 : Region.ready md ops l = [] := by
      cases e : Region.ready md ops l with
      | nil => rfl
      | cons i rs =>
        have h1 := getD_false (ready_spec (i := i) (by rw [e]; simp)).2.1
        have h2 := count_set _ _ h1
        omega
    exact ⟨h0, hdone l a w hI h0⟩
  | fuel + 1, l, a, w, hf, hI => by
    refine ⟨fun h0 => hdone l a w hI h0, fun i hi => ?_⟩
    have h1 := getD_false (ready_spec hi).2.1
    have h2 := count_set _ _ h1
    have h3 := hstep l a w hI i hi
    have hK : ∀ a' w', I (l.setIfInBounds i true) a' w' → wpAnyIn (Fence.wide.inRound r) n P md ops Q fuel (l.setIfInBounds i true) a' w' := fun a' w' h => wpAnyIn_inv hd I hstep hdone fuel _ a' w' (by rw [Array.toList_setIfInBounds]; omega) h
    unfold wpOpS at h3
    unfold wpOpIn
    cases ho : ops[i]? with
    | none =>
      rw [ho] at h3
      exact hK _ _ h3
    | some o =>
      rw [ho] at h3
      simp only at h3 ⊢
      split
      · rename_i hw
        rw [if_pos hw] at h3
        refine ⟨fun _ _ => trivial, ?_⟩
        rw [Oper.semAt_plain _ _ _ (hd i o ho)]
        exact upon_wide hK h3
      · rename_i hw
        rw [if_neg hw] at h3
        exact ⟨fun _ _ => trivial, hK _ _ h3⟩
theorem wpAny_invS {P : Program} {md : Region.Mode} {ops : Array Oper} {Q : Exit → Act → World → Prop} (I : Array Bool → Act → World → Prop)
    (hstep : ∀ l a w, I l a w → ∀ i, i ∈ Region.ready md ops l → wpOpS P ops Q i (I (l.setIfInBounds i true)) a w)
    (hdone : ∀ l a w, I l a w → Region.ready md ops l = [] → Q .normal a w) (fuel : Nat) (l : Array Bool) (a : Act) (w : World) (hf : l.toList.count false ≤ fuel) (hI : I l a w) : wpAny P md ops Q fuel l a w := by
  refine wpAny_inv I (fun l a w h i hi => ?_) hdone fuel l a w hf hI
  have h3 := hstep l a w h i hi
  unfold wpOpS at h3
  unfold wpOp
  cases ho : ops[i]? with
  | none =>
    rw [ho] at h3
    exact h3
  | some o =>
    rw [ho] at h3
    simp only at h3 ⊢
    split
    · rename_i hw
      rw [if_pos hw] at h3
      exact Or.inl h3
    · rename_i hw
      rw [if_neg hw] at h3
      exact h3
def selV (b : Bool) (v u : Value) : Value := if b then v else u
theorem selV_t (v u : Value) : selV true v u = v := rfl
def bitA (l : Array Bool) (k : Nat) : Bool := l.getD k false
theorem gsetN {N : Nat} (l : Array Bool) (i j : Nat) (hl : l.size = N) (hi : i < N) : bitA (l.setIfInBounds i true) j = if i = j then true else bitA l j := by
  unfold bitA
  simp only [Array.getD_eq_getD_getElem?, Array.getElem?_setIfInBounds]
  split
  · rename_i e
    rw [if_pos (by omega)]
    rfl
  · rfl
def Clo (f : Nat → List Nat) (l : Array Bool) : Prop := ∀ k, bitA l k = true → ∀ d ∈ f k, bitA l d = true
theorem Clo.step {N : Nat} {f : Nat → List Nat} {l : Array Bool} (h : Clo f l) (hl : l.size = N) {i : Nat} (hi : i < N) (hd : ∀ d ∈ f i, bitA l d = true) : Clo f (l.setIfInBounds i true) := fun k hk d hdk => by
  rw [gsetN l i d hl hi]
  split
  · rfl
  · rw [gsetN l i k hl hi] at hk
    by_cases e : i = k
    · subst e
      exact hd d hdk
    · rw [if_neg e] at hk
      exact h k hk d hdk
theorem Clo.start (f : Nat → List Nat) (N : Nat) : Clo f (Array.replicate N false) := fun k hk => by
  unfold bitA at hk
  rw [Array.getD_eq_getD_getElem?, Array.getElem?_replicate] at hk
  split at hk <;> cases hk
theorem goppN {N : Nat} {l : Array Bool} {i : Nat} (hl : l.size = N) (hi : i < N) : bitA l i = l.getD i true := by
  have h : i < l.size := by omega
  simp [bitA, Array.getD_eq_getD_getElem?, h]
theorem dep_at {md : Region.Mode} {ops : Array Oper} {l : Array Bool} {i j : Nat} {o : Oper} {e : Edge} (h : ((ops[i]?).map (·.after.all fun e => !Region.binds md e || l.getD e.on false)).getD false = true) (ho : ops[i]? = some o) (hj : o.after[j]? = some e) (hb : Region.binds md e = true) : bitA l e.on = true := by
  rw [ho, Option.map_some, Option.getD_some, Array.all_eq_true] at h
  obtain ⟨hlt, e1⟩ := Array.getElem?_eq_some_iff.1 hj
  have := h j hlt
  rw [e1, hb] at this
  show l.getD e.on false = true
  simpa using this
theorem noneN {md : Region.Mode} {ops : Array Oper} {l : Array Bool} (h : Region.ready md ops l = []) {i : Nat} (hi : i < ops.size) (hd : ((ops[i]?).map (·.after.all fun e => !Region.binds md e || l.getD e.on false)).getD false = true) : l.getD i true = true := by
  cases e : l.getD i true with
  | true => rfl
  | false =>
    have : i ∈ Region.ready md ops l := by
      unfold Region.ready
      refine List.mem_filter.2 ⟨List.mem_range.2 hi, ?_⟩
      rw [Bool.and_eq_true, e]
      exact ⟨rfl, hd⟩
    rw [h] at this
    cases this
end Go.Proofs.YtgmldkojldlekaaGreatDoor

namespace Go.Proofs.YtgmldkojldlekaaGreatDoor
open Go.RowKit
def KeptK (Ks : Nat → Prop) (W W' : World) : Prop := W.heap.size ≤ W'.heap.size ∧ ∀ k, Ks k → k < W.heap.size → W'.heap[k]? = W.heap[k]?
theorem KeptK.trans {Ks : Nat → Prop} {X Y Z : World} (h : KeptK Ks X Y) (k : KeptK Ks Y Z) : KeptK Ks X Z :=
  ⟨Nat.le_trans h.1 k.1, fun i hi hl => (k.2 i hi (Nat.lt_of_lt_of_le hl h.1)).trans (h.2 i hi hl)⟩
theorem KeptK.ofBelow {Ks : Nat → Prop} {W W' : World} (h : Below W.heap.size W W') : KeptK Ks W W' := ⟨h.size, fun k _ hl => h.block k hl⟩
def toldPostK {α : Type} (Ks : Nat → Prop) (I : List α → World → Prop) (Ix : Code → List α → World → Prop) (xs : List α) (W : World) : Exit → Act → World → Prop
  | .normal, _, W' => KeptK Ks W W' ∧ I xs W'
  | .ret, _, W' => KeptK Ks W W' ∧ Ix .ret xs W'
  | .exit id, _, W' => KeptK Ks W W' ∧ Ix (.exit id) xs W'
  | .goto t, _, W' => KeptK Ks W W' ∧ Ix (.goto t) xs W'
  | .panic _, _, _ => False
  | .outgrown, _, _ => False
def LpB (B : Nat) (W : World) : Prop := ∀ k, k = B ∨ k = B + 1 → ∃ o, W.heap[k]? = some o ∧ o.isCells = false
def TellsK {α : Type} (n : Nat) (P : Program) (gf : Nat) (lb : Array Value) (encs : α → Array Value) (Ks : Nat → Prop) (T : List α → α → World → Prop) (S : List α → Prop) (w : World) : Prop :=
  ∀ (l : Nat) (J Jx : List α → World → Prop) (W : World), Below w.heap.size w W → (∀ s A A', J s A → Below A.heap.size A A' → J s A') → (∀ s A A', Jx s A → Below A.heap.size A A' → Jx s A') →
    (∀ pre x W1, J pre W1 → T pre x W1 → YieldAt Fence.wide (n - 1) P l (encs x) W1 fun e W' =>
      (e = .returned (.bool true) ∧ J (pre ++ [x]) W' ∧ KeptK Ks W1 W') ∨ (e = .returned (.bool false) ∧ Jx (pre ++ [x]) W')) → J [] W →
    CallsIn Fence.wide n P gf (#[.func (.yield l) #[] #[]] ++ lb) W fun e W' => (∃ v, e = .returned v) ∧ ((∃ xs, S xs ∧ J xs W') ∨ ∃ pre, Jx pre W')
section
variable {α : Type} {n : Nat} {P : Program} {g : Operand} {ps : Array Tmp} {assign body : Code} {Q : Exit → Act → World → Prop} {a : Act} {w : World} {gf : Nat} {lb : Array Value} {encs : α → Array Value} {Ks : Nat → Prop}
theorem told_roundK {fn : FuncId} {I : List α → World → Prop} {Ix : Code → List α → World → Prop} {T : List α → α → World → Prop} (hps : ∀ x, (encs x).size = ps.size) (hBs : ∀ k, Ks k → k < w.heap.size)
    (hI : ∀ s A A', I s A → Nb w.heap.size A A' → I s A') (hIx : ∀ c s A A', Ix c s A → Nb w.heap.size A A' → Ix c s A') (hT : ∀ s x A A', T s x A → Nb w.heap.size A A' → T s x A') {Ax : α → Act → World → Prop} (hAx : ∀ x a' A A', Ax x a' A → Nb w.heap.size A A' → Ax x a' A')
    (hassign : ∀ (l : Nat) (x : α) (W : World) (K : Act → World → Prop), w.heap.size ≤ W.heap.size → (∀ a' W', Below W.heap.size W W' → Ax x a' W' → K a' W') →
      assign.wpIn (Fence.wide.inRound l) n P (Exit.then K (fun _ _ _ => False)) { tmps := (ps.zip (encs x)).foldl (fun t (p, v) => t.setIfInBounds p v) a.tmps, defers := [] } W)
    (hbody : ∀ (l : Nat) (pre : List α) (x : α) (a' : Act) (W : World), I pre W → T pre x W → Ax x a' W → LpB w.heap.size W → body.wpIn (Fence.wide.inRound l) n P (toldPostK (fun k => Ks k ∨ k = w.heap.size ∨ k = w.heap.size + 1) I Ix (pre ++ [x]) W) a' W)
    {pre : List α} {x : α} {W : World} (hi : I pre W) (ht : T pre x W) (hl : W.heap[w.heap.size + 1]? = some (.loop (recL fn a.tmps ps assign body w.heap.size .ready none))) (hk : W.heap[w.heap.size]? = some (.deferred (some []))) :
    YieldAt Fence.wide n P (w.heap.size + 1) (encs x) W fun e W' =>
      (e = .returned (.bool true) ∧ (I (pre ++ [x]) W' ∧ W'.heap[w.heap.size + 1]? = some (.loop (recL fn a.tmps ps assign body w.heap.size .ready none)) ∧ W'.heap[w.heap.size]? = some (.deferred (some []))) ∧ KeptK Ks W W') ∨
      (e = .returned (.bool false) ∧ ∃ c, Ix c (pre ++ [x]) W' ∧ W'.heap[w.heap.size + 1]? = some (.loop (recL fn a.tmps ps assign body w.heap.size .done (some c))) ∧ W'.heap[w.heap.size]? = some (.deferred (some []))) := by
  refine ⟨fn, _, assign, body, run_yield hl (hps x), roundIn_of_wpIn trivial (hassign _ x W _ (by have := lt_heap hk; omega) fun a' W0 hb0 hax => ?_)⟩
  have hl0 : W0.heap[w.heap.size + 1]? = some (.loop (recL fn a.tmps ps assign body w.heap.size .ready none)) := by rw [hb0.block _ (lt_heap hl)]; exact hl
  have hk0 : W0.heap[w.heap.size]? = some (.deferred (some [])) := by rw [hb0.block _ (lt_heap hk)]; exact hk
  have hn0 : Nb w.heap.size W W0 := Nb.ofBelow hb0
  have hK0 : KeptK Ks W W0 := KeptK.ofBelow hb0
  refine ⟨_, run_beginRound hl0 rfl, ?_⟩
  have hlt := lt_heap hl0
  obtain ⟨W1, hW1⟩ : ∃ W1, W1 = W0.putObj (w.heap.size + 1) (.loop { recL fn a.tmps ps assign body w.heap.size .ready none with state := .busy }) := ⟨_, rfl⟩
  have hl1 : W1.heap[w.heap.size + 1]? = some (.loop (recL fn a.tmps ps assign body w.heap.size .busy none)) := by rw [hW1]; exact World.putObj_heap_same hlt
  have hk1 : W1.heap[w.heap.size]? = some (.deferred (some [])) := by rw [hW1]; exact (World.putObj_heap_other (by omega)).trans hk0
  have hn1 : Nb w.heap.size W0 W1 := by rw [hW1]; exact Nb.put _ (by omega) hl0 rfl
  have hz1 : W1.heap.size = W0.heap.size := by rw [hW1]; simp
  have hK1 : KeptK Ks W W1 := hK0.trans ⟨by omega, fun k hk' _ => by rw [hW1]; exact World.putObj_heap_other (by have := hBs k hk'; omega)⟩
  rw [← hW1]
  have fin : ∀ (jump : Option Code) (W3 : World), KeptK (fun k => Ks k ∨ k = w.heap.size ∨ k = w.heap.size + 1) W1 W3 → ∃ W4, (Instr.endRound (w.heap.size + 1) jump).run P W3 = .ok (.bool jump.isNone) W4 ∧ Nb w.heap.size W3 W4 ∧ KeptK Ks W W4 ∧
      W4.heap[w.heap.size + 1]? = some (.loop (recL fn a.tmps ps assign body w.heap.size (if jump.isNone then .ready else .done) jump)) ∧ W4.heap[w.heap.size]? = some (.deferred (some [])) := fun jump W3 hk3 => by
    have hl3 : W3.heap[w.heap.size + 1]? = some (.loop (recL fn a.tmps ps assign body w.heap.size .busy none)) := (hk3.2 _ (Or.inr (Or.inr rfl)) (by omega)).trans hl1
    have hd3 : W3.heap[w.heap.size]? = some (.deferred (some [])) := (hk3.2 _ (Or.inr (Or.inl rfl)) (by omega)).trans hk1
    refine ⟨_, run_endRound jump hl3, Nb.put _ (by omega) hl3 rfl, hK1.trans (KeptK.trans ⟨hk3.1, fun k hk' hlk => hk3.2 k (Or.inl hk') hlk⟩ ⟨by simp, fun k hk' _ => World.putObj_heap_other (by have := hBs k hk'; omega)⟩), World.putObj_heap_same (lt_heap hl3), (World.putObj_heap_other (by omega)).trans hd3⟩
  refine wpIn_mono (hbody _ pre x a' W1 (hI _ _ _ (hI _ _ _ hi hn0) hn1) (hT _ _ _ _ (hT _ _ _ _ ht hn0) hn1) (hAx _ _ _ _ hax hn1) (fun k hk => by rcases hk with rfl | rfl; exact ⟨_, hk1, rfl⟩; exact ⟨_, hl1, rfl⟩)) ?_
  rintro e a3 W3 hp
  cases e with
  | normal =>
    obtain ⟨W4, h1, h2, h3, h4, h5⟩ := fin none W3 hp.1
    exact ⟨_, W4, h1, .inl ⟨rfl, ⟨hI _ _ _ hp.2 h2, h4, h5⟩, h3⟩⟩
  | ret =>
    obtain ⟨W4, h1, h2, h3, h4, h5⟩ := fin (some .ret) W3 hp.1
    exact ⟨_, W4, h1, .inr ⟨rfl, .ret, hIx _ _ _ _ hp.2 h2, h4, h5⟩⟩
  | exit id =>
    obtain ⟨W4, h1, h2, h3, h4, h5⟩ := fin (some (.exit id)) W3 hp.1
    exact ⟨_, W4, h1, .inr ⟨rfl, .exit id, hIx _ _ _ _ hp.2 h2, h4, h5⟩⟩
  | goto t =>
    obtain ⟨W4, h1, h2, h3, h4, h5⟩ := fin (some (.goto t)) W3 hp.1
    exact ⟨_, W4, h1, .inr ⟨rfl, .goto t, hIx _ _ _ _ hp.2 h2, h4, h5⟩⟩
  | panic ch => exact hp.elim
  | outgrown => exact hp.elim
theorem range_toldK (hg : a.eval g = .func (.func gf) #[] lb) (eg : ∀ args w, (callFunc gf args).run P w = .ok (.enter gf args) w) (hps : ∀ x, (encs x).size = ps.size) (hn : 1 ≤ n) (hBs : ∀ k, Ks k → k < w.heap.size)
    {I : List α → World → Prop} {Ix : Code → List α → World → Prop} {T : List α → α → World → Prop} {S : List α → Prop} (hseq : TellsK (n - 1) P gf lb encs Ks T S w)
    (hI : ∀ s A A', I s A → Nb w.heap.size A A' → I s A') (hIx : ∀ c s A A', Ix c s A → Nb w.heap.size A A' → Ix c s A') (hT : ∀ s x A A', T s x A → Nb w.heap.size A A' → T s x A') (h0 : I [] w) {Ax : α → Act → World → Prop} (hAx : ∀ x a' A A', Ax x a' A → Nb w.heap.size A A' → Ax x a' A')
    (hassign : ∀ (l : Nat) (x : α) (W : World) (K : Act → World → Prop), w.heap.size ≤ W.heap.size → (∀ a' W', Below W.heap.size W W' → Ax x a' W' → K a' W') →
      assign.wpIn (Fence.wide.inRound l) (n - 1 - 1) P (Exit.then K (fun _ _ _ => False)) { tmps := (ps.zip (encs x)).foldl (fun t (p, v) => t.setIfInBounds p v) a.tmps, defers := [] } W)
    (hbody : ∀ (l : Nat) (pre : List α) (x : α) (a' : Act) (W : World), I pre W → T pre x W → Ax x a' W → LpB w.heap.size W → body.wpIn (Fence.wide.inRound l) (n - 1 - 1) P (toldPostK (fun k => Ks k ∨ k = w.heap.size ∨ k = w.heap.size + 1) I Ix (pre ++ [x]) W) a' W)
    (hdone : ∀ (D : Nat) (xs : List α) (W : World), w.heap.size ≤ D → S xs → I xs W → W.heap[D]? = some (.deferred (some [])) → Q .normal { a with defers := { target := .collected D, args := #[] } :: a.defers } W)
    (hstop : ∀ (D : Nat) (c : Code) (pre : List α) (W : World), w.heap.size ≤ D → Ix c pre W → W.heap[D]? = some (.deferred (some [])) → c.wpIn Fence.wide n P Q { a with defers := { target := .collected D, args := #[] } :: a.defers } W) :
    (Code.rangeFunc g ps assign body).wpIn Fence.wide n P Q a w := by
  refine wpIn_rangeFunc fun fn _ => ?_
  obtain ⟨W1, hW1⟩ : ∃ W1, W1 = (w.alloc (.deferred (some []))).alloc (.loop (recL fn a.tmps ps assign body w.heap.size .ready none)) := ⟨_, rfl⟩
  have hl1 : W1.heap[w.heap.size + 1]? = some (.loop (recL fn a.tmps ps assign body w.heap.size .ready none)) := by
    rw [hW1]
    have := World.alloc_heap_new (w.alloc (.deferred (some []))) (.loop (recL fn a.tmps ps assign body w.heap.size .ready none))
    rwa [World.size_alloc] at this
  have hk1 : W1.heap[w.heap.size]? = some (.deferred (some [])) := by
    rw [hW1]
    exact (Below.heap_alloc _ _ _ (by simp)).trans (World.alloc_heap_new w _)
  have hb1 : Below w.heap.size w W1 := by
    rw [hW1]
    exact ((Below.refl _ w).alloc (Nat.le_refl _) _).alloc (by simp) _
  have keep : ∀ {A A' : World} {k : Nat} {o : Obj}, A.heap[k]? = some o → Below A.heap.size A A' → A'.heap[k]? = some o := fun h hb => by
    rw [hb.block _ (lt_heap h)]
    exact h
  refine ⟨w.heap.size + 1, [{ target := .collected w.heap.size, args := #[] }], W1, { target := .fn (.func gf) lb, args := #[.func (.yield (w.heap.size + 1)) #[] #[]] }, W1, gf,
    #[.func (.yield (w.heap.size + 1)) #[] #[]] ++ lb, W1, by rw [hW1]; exact run_enterLoop_outer _ _ _ _ _, by simp only [resolve, hg]; simp [go_sem], fun f' hf' => by simp [Target.leads] at hf'; exact trivial, by simp [invoke, go_sem, eg], fun _ => hn, ?_⟩
  refine (hseq (w.heap.size + 1)
    (fun pre W => I pre W ∧ W.heap[w.heap.size + 1]? = some (.loop (recL fn a.tmps ps assign body w.heap.size .ready none)) ∧ W.heap[w.heap.size]? = some (.deferred (some [])))
    (fun pre W => ∃ c, Ix c pre W ∧ W.heap[w.heap.size + 1]? = some (.loop (recL fn a.tmps ps assign body w.heap.size .done (some c))) ∧ W.heap[w.heap.size]? = some (.deferred (some [])))
    W1 hb1 (fun s A A' h hb => ⟨hI _ _ _ h.1 (Nb.ofBelow hb), keep h.2.1 hb, keep h.2.2 hb⟩)
    (fun s A A' h hb => by obtain ⟨c, h1, h2, h3⟩ := h; exact ⟨c, hIx _ _ _ _ h1 (Nb.ofBelow hb), keep h2 hb, keep h3 hb⟩)
    (fun pre x W h ht => told_roundK hps hBs hI hIx hT hAx hassign hbody h.1 ht h.2.1 h.2.2) ⟨hI _ _ _ h0 (Nb.ofBelow hb1), hl1, hk1⟩).mono ?_
  rintro e W2 ⟨⟨v, rfl⟩, ⟨xs, hS, hi, hl, hk⟩ | ⟨pre, c, hi, hl, hk⟩⟩
  · exact ⟨none, _, run_endLoop hl (by simp [recL]), hdone _ xs _ (Nat.le_refl _) hS (hI _ _ _ hi (Nb.put _ (by omega) hl rfl)) ((World.putObj_heap_other (by omega)).trans hk)⟩
  · exact ⟨some c, _, run_endLoop hl (by simp [recL]), hstop _ c pre _ (Nat.le_refl _) (hIx _ _ _ _ hi (Nb.put _ (by omega) hl rfl)) ((World.putObj_heap_other (by omega)).trans hk)⟩
end
end Go.Proofs.YtgmldkojldlekaaGreatDoor

namespace Go.Proofs.YtgmldkojldlekaaGreatDoor
open Go.RowKit
theorem ret_pair {a b : Int} {v : Value} (h : a = b) : Ending.returned (.tuple #[.int .u64 a, v]) = .returned (.tuple #[.int .u64 b, v]) := by rw [h]
theorem or_word (a b : Int) (h0 : 0 ≤ a) (h1 : a ≤ 5) : bits .or .u64 (IntKind.u64.wrap (IntKind.u64.wrap b * 8)) a = wordOf a b := by
  have hw : IntKind.u64.wrap (IntKind.u64.wrap b * 8) = (b * 8) % 18446744073709551616 := by
    rw [IntKind.wrap_u64, IntKind.wrap_u64]; omega
  rw [hw, bits_join .u64 64 (by decide) wraps64u 3 _ a (by omega) (by omega) (by omega) h0 (by omega) (by omega)]
  unfold wordOf; omega
set_option maxRecDepth 100000 in
set_option maxHeartbeats 400000 in
theorem pack_ok (a b : Int) (w : World) (hf : fitsB a b = true) :
    Calls Tryz.prog 90 #[.int .i64 a, .int .i64 b] w fun e w' => e = .returned (.tuple #[.int .u64 (wordOf a b), .nilIface]) ∧ w' = w := by
  have hb := fits_bd a b hf
  have ht := fits_tag a b hf
  have H : Hid (bits .or .u64 (IntKind.u64.wrap (IntKind.u64.wrap b * 8)) a = wordOf a b) := or_word a b ht.1 ht.2
  go_enter Tryz.func90, Tryz.ntmps90
  go_wp2_with (go_at_call 119; refine (fits_any _ _ _ (by omega) (by omega)).mono ?_; rintro e w' ⟨rfl, rfl⟩)
  go_ret2
  exact ⟨ret_pair H.out, rfl⟩
end Go.Proofs.YtgmldkojldlekaaGreatDoor

namespace Go.Proofs.YtgmldkojldlekaaGreatDoor
open Go.RowKit
set_option maxHeartbeats 1000000 in
theorem index_nodes (f : Nat) (cb : Array Value) (eg : ∀ args w, (callFunc f args).run Tryz.prog w = .ok (.enter f args) w) (v : Value) (l : List Nd) (p : Nd → Bool) (W : World) (hl : l.length ≤ 5000) (hv : Rn W v l)
    (hs : ∀ n av w, n ∈ l → Below W.heap.size W w → Ri w av n.args → Calls Tryz.prog f (#[.agg #[.int .i64 n.kind, .string n.name, .int .i64 n.num, av]] ++ cb) w fun e w' => e = .returned (.bool (p n)) ∧ Below w.heap.size w w') :
    Calls Tryz.prog 103 #[v, .func (.func f) #[] cb] W fun e w' => e = .returned (.int .i64 (ixOf p l)) ∧ Below W.heap.size W w' := by
  obtain ⟨ao, c, rfl, hr⟩ := hv
  go_enter Tryz.func103, Tryz.ntmps103
  go_wp2
  go_loopw [5, 8] (fun _ i wr => ∃ k : Nat, k ≤ l.length ∧ i = .int .i64 k ∧ Hid (Below W.heap.size W wr) ∧ Hid (∀ j, j < k → p (l.getD j nd0) = false)) (fun _ i _ => l.length - (intOf i).toNat)
  case atStart => exact ⟨0, Nat.zero_le _, rfl, Below.refl _ _, fun j hj => absurd hj (Nat.not_lt_zero _)⟩
  case round =>
    obtain ⟨k, hk, rfl, hI, hp⟩ := hrel
    by_cases hlt : k < l.length
    · obtain ⟨b, o, av, rfl, hN⟩ := hr k hlt
      obtain ⟨c0, c1, c2, c3, hA⟩ := hN.below hI.out
      have hcall := hs (l.getD k nd0) av wr (by simp [List.getD, hlt]) hI.out hA
      cases hq : p (l.getD k nd0) with
      | true =>
        have hq' := hid (ixOf_hit nd0 p l k hlt hp.out hq)
        rw [hq] at hcall
        clear hq hs hr hA hN
        generalize l.getD k nd0 = x at c0 c1 c2 c3 hcall
        obtain ⟨kind, name, num, args⟩ := x
        dsimp only at c0 c1 c2 c3 hcall
        go_wp2_with (go_at_fn f; refine hcall.mono ?_; rintro e w' ⟨rfl, hb⟩)
        go_ret
        exact ⟨ret_int hq'.out.symm, Below.next hI.out hb⟩
      | false =>
        have hq' : Hid (∀ j, j < k + 1 → p (l.getD j nd0) = false) := fun j hj => by
          rcases Nat.lt_or_eq_of_le (Nat.le_of_lt_succ hj) with h | h
          · exact hp.out j h
          · subst h; exact hq
        rw [hq] at hcall
        clear hq hs hr hA hN
        generalize l.getD k nd0 = x at c0 c1 c2 c3 hcall
        obtain ⟨kind, name, num, args⟩ := x
        dsimp only at c0 c1 c2 c3 hcall
        go_wp2_with (go_at_fn f; refine hcall.mono ?_; rintro e w' ⟨rfl, hb⟩)
        go_roundw
        case rel => exact ⟨k + 1, by omega, congrArg (Value.int .i64) (by omega), Below.next hI.out hb, hq'⟩
        case measure => simp [intOf]; omega
    · have hm := hid (ixOf_miss nd0 p l (fun j hj => hp.out j (by omega)))
      go_wp2
      go_ret
      exact ⟨ret_int hm.out.symm, hI.out⟩
def Sized (g : Gf) : Prop := ∀ n ∈ g.nodes, n.name.size ≤ 9223372036854775807
theorem index_bad {w : World} {f v : Value} {B : Nat} {l : List Nd} (hf : Strange w f l.length) (hB : w.cell? ⟨B, 0, none⟩ = some f) (hv : Rn w v l) (hl : l.length ≤ 5000) (hs : ∀ n ∈ l, n.name.size ≤ 9223372036854775807) :
    Calls Tryz.prog 103 #[v, .func (.func 101) #[] #[.pointer (some ⟨B, 0, none⟩)]] w fun e w' => e = .returned (.int .i64 (ixOf (fun n => !goodNd l.length n) l)) ∧ Below w.heap.size w w' :=
  index_nodes _ _ bad_eg v l (fun n => !goodNd l.length n) w hl hv (fun n av w1 hn hb ha => bad_any (hf.below hb) (by rw [hb.cell (p := ⟨B, 0, none⟩) (lt_of_cell hB)]; exact hB) ha (hs n hn))
set_option maxRecDepth 100000 in
set_option maxHeartbeats 2000000 in
theorem check_any {W : World} {nv rv : Value} {g : Gf} (hG : Gr W nv rv g) (hS : Sized g) :
    Calls Tryz.prog 75 #[.agg #[nv, rv]] W fun e w' => (∃ ev, e = .returned ev ∧ Er w' ev (one (chk g))) ∧ Below W.heap.size W w' := by
  obtain ⟨nodes, roots⟩ := g
  obtain ⟨hn, hr⟩ := hG
  dsimp only at hn hr
  have hn' := hn
  have hr' := hr
  obtain ⟨na, nc, rfl, _⟩ := hn'
  obtain ⟨ra, rc, rfl, _⟩ := hr'
  by_cases h1 : 4096 < nodes.length
  · have hC := hid (show one (chk ⟨nodes, roots⟩) = [(41, (nodes.length : Int))] by simp [chk, h1, one])
    have h1' : (4096 : Int) < (nodes.length : Int) := by omega
    clear hn hr hS
    go_enter Tryz.func75, Tryz.ntmps75
    go_wp2_with (go_at_call 99; refine (fault_er _ _ (by decide) _).mono ?_; rintro e w' ⟨⟨ev, b, rfl, rfl, hE⟩, hb⟩)
    go_ret
    rw [hC.out]
    exact ⟨⟨_, rfl, hE⟩, Below.next (below_alloc _ _) hb⟩
  · by_cases h2 : 4096 < roots.length
    · have hC := hid (show one (chk ⟨nodes, roots⟩) = [(42, (roots.length : Int))] by simp [chk, h1, h2, one])
      have h2' : (4096 : Int) < (roots.length : Int) := by omega
      clear hn hr hS
      go_enter Tryz.func75, Tryz.ntmps75
      go_wp2_with (go_at_call 99; refine (fault_er _ _ (by decide) _).mono ?_; rintro e w' ⟨⟨ev, b, rfl, rfl, hE⟩, hb⟩)
      go_ret
      rw [hC.out]
      exact ⟨⟨_, rfl, hE⟩, Below.next (below_alloc _ _) hb⟩
    · have hmf : ∀ (fn : Fn) (first cap : Array Value) (w : World), (Instr.makeFunc fn first cap).run Tryz.prog w = .ok (.func fn first cap) w := fun _ _ _ _ => rfl
      have hb2 : Below W.heap.size W ((W.alloc (Obj.cells #[.slice na nodes.length nc, .slice ra roots.length rc] 30)).alloc (Obj.cells #[.func (.func 100) #[] #[.pointer (some ⟨W.heap.size, 0, none⟩)]] 51)) :=
        (below_alloc W _).alloc (by simp) _
      have hc2 : ((W.alloc (Obj.cells #[.slice na nodes.length nc, .slice ra roots.length rc] 30)).alloc (Obj.cells #[.func (.func 100) #[] #[.pointer (some ⟨W.heap.size, 0, none⟩)]] 51)).cell? ⟨W.heap.size + 1, 0, none⟩ = some (.func (.func 100) #[] #[.pointer (some ⟨W.heap.size, 0, none⟩)]) := by simp [go_sem]
      have hd2 : ((W.alloc (Obj.cells #[.slice na nodes.length nc, .slice ra roots.length rc] 30)).alloc (Obj.cells #[.func (.func 100) #[] #[.pointer (some ⟨W.heap.size, 0, none⟩)]] 51)).cell? ⟨W.heap.size, 0, none⟩ = some (.slice na nodes.length nc) := by simp [go_sem]
      have he2 : ((W.alloc (Obj.cells #[.slice na nodes.length nc, .slice ra roots.length rc] 30)).alloc (Obj.cells #[.func (.func 100) #[] #[.pointer (some ⟨W.heap.size, 0, none⟩)]] 51)).cell? ⟨W.heap.size, 1, none⟩ = some (.slice ra roots.length rc) := by simp [go_sem]
      have hs2 : Strange ((W.alloc (Obj.cells #[.slice na nodes.length nc, .slice ra roots.length rc] 30)).alloc (Obj.cells #[.func (.func 100) #[] #[.pointer (some ⟨W.heap.size, 0, none⟩)]] 51)) (.func (.func 100) #[] #[.pointer (some ⟨W.heap.size, 0, none⟩)]) nodes.length := ⟨_, _, _, rfl, hd2⟩
      have hi := index_bad hs2 hc2 (hn.below hb2) (by omega) hS
      have hC := hid (show one (chk ⟨nodes, roots⟩) = if 0 ≤ ixOf (fun n => !goodNd nodes.length n) nodes then [(40, ixOf (fun n => !goodNd nodes.length n) nodes)] else if 0 ≤ ixOf (strange nodes.length) roots then [(43, ixOf (strange nodes.length) roots)] else [] by
        unfold chk one
        simp only [h1, h2, if_false]
        split
        · simp
        · split <;> simp)
      have x1 := ixOf_ge (fun n => !goodNd nodes.length n) nodes
      have x2 := ixOf_ge (strange nodes.length) roots
      have hr2 := hr.below hb2
      generalize hx : ixOf (fun n => !goodNd nodes.length n) nodes = x at hi hC x1
      generalize hy : ixOf (strange nodes.length) roots = y at hC x2
      have hj : ∀ w1 : World, Below ((W.alloc (Obj.cells #[.slice na nodes.length nc, .slice ra roots.length rc] 30)).alloc (Obj.cells #[.func (.func 100) #[] #[.pointer (some ⟨W.heap.size, 0, none⟩)]] 51)).heap.size ((W.alloc (Obj.cells #[.slice na nodes.length nc, .slice ra roots.length rc] 30)).alloc (Obj.cells #[.func (.func 100) #[] #[.pointer (some ⟨W.heap.size, 0, none⟩)]] 51)) w1 →
          w1.cell? ⟨W.heap.size + 1, 0, none⟩ = some (.func (.func 100) #[] #[.pointer (some ⟨W.heap.size, 0, none⟩)]) ∧ w1.cell? ⟨W.heap.size, 1, none⟩ = some (.slice ra roots.length rc) ∧
          Calls Tryz.prog 69 #[.slice ra roots.length rc, .func (.func 100) #[] #[.pointer (some ⟨W.heap.size, 0, none⟩)]] w1 fun e w' => e = .returned (.int .i64 y) ∧ Below w1.heap.size w1 w' := fun w1 hb => by
        refine ⟨?_, ?_, ?_⟩
        · rw [hb.cell (p := ⟨W.heap.size + 1, 0, none⟩) (lt_of_cell hc2)]; exact hc2
        · rw [hb.cell (p := ⟨W.heap.size, 1, none⟩) (lt_of_cell he2)]; exact he2
        · rw [← hy]
          exact index_strange (hs2.below hb) (hr2.below hb) (by omega)
      clear hc2 hd2 he2 hs2 hr2 hx hy hn hr hS
      by_cases hx0 : 0 ≤ x
      · rw [if_pos hx0] at hC
        go_enter Tryz.func75, Tryz.ntmps75
        go_wp2_with (first | (go_at_call 103; refine hi.mono ?_; rintro e w1 ⟨rfl, hb⟩; clear hj hi) | (go_at_call 99; refine (fault_er _ _ (by decide) _).mono ?_; rintro e w' ⟨⟨ev, b, rfl, rfl, hE⟩, hb'⟩))
        go_ret
        rw [hC.out]
        exact ⟨⟨_, rfl, hE⟩, Below.next (Below.next hb2 hb) hb'⟩
      · rw [if_neg hx0] at hC
        by_cases hy0 : 0 ≤ y
        · rw [if_pos hy0] at hC
          go_enter Tryz.func75, Tryz.ntmps75
          go_wp2_with (first | (go_at_call 103; refine hi.mono ?_; rintro e w1 ⟨rfl, hb⟩; obtain ⟨d1, d2, d3⟩ := hj w1 hb; clear hj hi) | (go_at_call 69; refine d3.mono ?_; rintro e w2 ⟨rfl, hb3⟩) | (go_at_call 99; refine (fault_er _ _ (by decide) _).mono ?_; rintro e w' ⟨⟨ev, b, rfl, rfl, hE⟩, hb'⟩))
          go_ret
          rw [hC.out]
          exact ⟨⟨_, rfl, hE⟩, Below.next (Below.next (Below.next hb2 hb) hb3) hb'⟩
        · rw [if_neg hy0] at hC
          go_enter Tryz.func75, Tryz.ntmps75
          go_wp2_with (first | (go_at_call 103; refine hi.mono ?_; rintro e w1 ⟨rfl, hb⟩; obtain ⟨d1, d2, d3⟩ := hj w1 hb; clear hj hi) | (go_at_call 69; refine d3.mono ?_; rintro e w2 ⟨rfl, hb3⟩))
          go_ret
          rw [hC.out]
          exact ⟨⟨_, rfl, rfl⟩, Below.next (Below.next hb2 hb) hb3⟩
end Go.Proofs.YtgmldkojldlekaaGreatDoor
