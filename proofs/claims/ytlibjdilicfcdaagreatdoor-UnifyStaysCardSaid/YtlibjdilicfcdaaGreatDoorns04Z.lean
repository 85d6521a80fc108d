/- Rows that are kept. -/
import Derived.Orders
import Derived.Test.YtlibjdilicfcdaaGreatDoorns01Z
import Derived.Test.YtlibjdilicfcdaaGreatDoorns00Z
namespace Go.Proofs.YtlibjdilicfcdaaGreatDoor
set_option maxRecDepth 100000
open Go.RowKit
theorem row_keep {w w' : World} {B z : Nat} {e : TypeId} {v : Value} {n : Nat} {xs : List Value} (h : w.ownsRow B e z v n xs) (hm : ∀ k, v.ownBlock = some k → w'.heap[k]? = w.heap[k]?) : w'.ownsRow B e z v n xs := by
  refine ⟨h.1, ?_⟩
  rcases h.2 with h0 | ⟨g, cap, cur, rfl, hb, hg, rest⟩
  · exact Or.inl h0
  · exact Or.inr ⟨g, cap, cur, rfl, hb, by rw [hm g rfl]; exact hg, rest⟩
theorem row_obj {w : World} {B z : Nat} {e : TypeId} {v : Value} {n : Nat} {xs : List Value} (h : w.ownsRow B e z v n xs) {k : Nat} (hk : v.ownBlock = some k) : ∃ cur, w.heap[k]? = some (.cells cur e (0, 0)) := by
  rcases h.2 with ⟨rfl, _⟩ | ⟨g, cap, cur, rfl, _, hg, _⟩
  · cases hk
  · have : g = k := by simpa [Value.ownBlock] using hk
    subst this
    exact ⟨cur, hg⟩
theorem obj_ne {w : World} {k j : Nat} {c c' : Array Value} {e e' : TypeId} {x x' : Nat × Nat} (h : w.heap[k]? = some (.cells c e x)) (h' : w.heap[j]? = some (.cells c' e' x')) (hne : e ≠ e') : k ≠ j := fun ek => by
  subst ek
  rw [h] at h'
  injection h' with h'
  injection h' with _ h'
  exact hne h'
end Go.Proofs.YtlibjdilicfcdaaGreatDoor

namespace Go.Proofs.YtlibjdilicfcdaaGreatDoor
set_option maxRecDepth 100000
open Go.RowKit
theorem count_set : ∀ (l : List Bool) (i : Nat), l[i]? = some false → (l.set i true).count false + 1 = l.count false
  | [], _, h => by simp at h
  | b :: l, 0, h => by
    have : b = false := by simpa using h
    subst this
    simp
  | b :: l, i + 1, h => by
    have h1 := count_set l i (by simpa using h)
    cases b <;> simp <;> omega
theorem ready_spec {md : Region.Mode} {ops : Array Oper} {l : Array Bool} {i : Nat} (h : i ∈ Region.ready md ops l) : i < ops.size ∧ l.getD i true = false ∧ ((ops[i]?).map (·.after.all fun e => !Region.binds md e || l.getD e.on false)).getD false = true := by
  unfold Region.ready at h
  obtain ⟨h1, h2⟩ := List.mem_filter.1 h
  rw [Bool.and_eq_true] at h2
  exact ⟨List.mem_range.1 h1, by simpa using h2.1, h2.2⟩
theorem getD_false {l : Array Bool} {i : Nat} (h : l.getD i true = false) : l.toList[i]? = some false := by
  simp only [Array.getD_eq_getD_getElem?] at h
  cases e : l[i]? with
  | none => rw [e] at h; simp at h
  | some b =>
    rw [e] at h
    have : b = false := by simpa using h
    subst this
    simpa using e
theorem wpAny_inv {P : Program} {md : Region.Mode} {ops : Array Oper} {Q : Exit → Act → World → Prop} (I : Array Bool → Act → World → Prop)
    (hstep : ∀ l a w, I l a w → ∀ i, i ∈ Region.ready md ops l → wpOp P ops Q i (I (l.setIfInBounds i true)) a w)
    (hdone : ∀ l a w, I l a w → Region.ready md ops l = [] → Q .normal a w) :
    ∀ (fuel : Nat) (l : Array Bool) (a : Act) (w : World), l.toList.count false ≤ fuel → I l a w → wpAny P md ops Q fuel l a w
  | 0, l, a, w, hf, hI => by
    have h0 : Region.ready md ops l = [] := by
      cases e : Region.ready md ops l with
      | nil => rfl
      | cons i r =>
        have h1 := getD_false (ready_spec (i := i) (by rw [e]; simp)).2.1
        have h2 := count_set _ _ h1
        omega
    exact ⟨h0, hdone l a w hI h0⟩
  | fuel + 1, l, a, w, hf, hI => by
    refine ⟨fun h0 => hdone l a w hI h0, fun i hi => ?_⟩
    have h1 := getD_false (ready_spec hi).2.1
    have h2 := count_set _ _ h1
    refine wpOp_mono (fun a' w' h => wpAny_inv I hstep hdone fuel _ a' w' ?_ h) (hstep l a w hI i hi)
    rw [Array.toList_setIfInBounds]
    omega
end Go.Proofs.YtlibjdilicfcdaaGreatDoor

namespace Go.Proofs.YtlibjdilicfcdaaGreatDoor
set_option maxRecDepth 100000
open Go.RowKit
def bindE (E : Nat → Nat) (p : Nat × Nat) : Nat → Nat := fun x => if E x = p.1 then E p.2 else E x
structure Ld (L : List Nat) (E : Nat → Nat) : Prop where
  rng : ∀ n, n < L.length → L.getD n 0 < L.length
  st : ∀ n, n < L.length → E (L.getD n 0) = E n
  fix : ∀ n, n < L.length → (L.getD n 0 = n ↔ E n = n)
  out : ∀ n, L.length ≤ n → E n = n
  erng : ∀ n, n < L.length → E n < L.length
  idem : ∀ n, E (E n) = E n
  rank : ∃ (r : Nat → Nat) (M : Nat), (∀ n, r n ≤ M) ∧ ∀ n, n < L.length → L.getD n 0 ≠ n → r (L.getD n 0) < r n
theorem Ld.nil : Ld [] id := ⟨fun _ h => by simp at h, fun _ h => by simp at h, fun _ h => by simp at h, fun _ _ => rfl, fun _ h => by simp at h, fun _ => rfl, fun _ => 0, 0, fun _ => Nat.le_refl _, fun _ h => by simp at h⟩
theorem getD_snocN {L : List Nat} {v n : Nat} : (L ++ [v]).getD n 0 = if n < L.length then L.getD n 0 else if n = L.length then v else 0 := by
  by_cases h : n < L.length
  · rw [if_pos h]
    simp [List.getD, List.getElem?_append_left h]
  · rw [if_neg h]
    by_cases e : n = L.length
    · subst e; simp [List.getD]
    · rw [if_neg e]
      simp [List.getD, List.getElem?_eq_none (show (L ++ [v]).length ≤ n by simp; omega)]
theorem getD_setN {L : List Nat} {v i n : Nat} (h : i < L.length) : (L.set i v).getD n 0 = if n = i then v else L.getD n 0 := by
  by_cases e : n = i
  · subst e
    rw [if_pos rfl]
    simp [List.getD, h]
  · rw [if_neg e]
    simp [List.getD, Ne.symm e]
theorem Ld.add {L : List Nat} {E : Nat → Nat} (h : Ld L E) : Ld (L ++ [L.length]) E := by
  have hl : (L ++ [L.length]).length = L.length + 1 := by simp
  refine ⟨fun n hn => ?_, fun n hn => ?_, fun n hn => ?_, fun n hn => ?_, fun n hn => ?_, h.idem, ?_⟩
  · rw [hl] at hn ⊢
    rw [getD_snocN]
    split
    · have := h.rng n ‹_›; omega
    · split <;> omega
  · rw [hl] at hn
    rw [getD_snocN]
    split
    · exact h.st n ‹_›
    · rw [if_pos (by omega), show n = L.length by omega]
  · rw [hl] at hn
    rw [getD_snocN]
    split
    · exact h.fix n ‹_›
    · have e : n = L.length := by omega
      rw [if_pos e, e]
      exact ⟨fun _ => h.out _ (Nat.le_refl _), fun _ => rfl⟩
  · rw [hl] at hn
    exact h.out n (by omega)
  · rw [hl] at hn ⊢
    by_cases hlt : n < L.length
    · have := h.erng n hlt; omega
    · rw [h.out n (by omega)]; omega
  · obtain ⟨r, M, h1, h2⟩ := h.rank
    refine ⟨r, M, h1, fun n hn hne => ?_⟩
    rw [hl] at hn
    rw [getD_snocN] at hne ⊢
    by_cases hlt : n < L.length
    · rw [if_pos hlt] at hne ⊢
      exact h2 n hlt hne
    · rw [if_neg hlt, if_pos (by omega)] at hne
      omega
theorem Ld.half {L : List Nat} {E : Nat → Nat} (h : Ld L E) {n : Nat} (hn : n < L.length) : Ld (L.set n (L.getD (L.getD n 0) 0)) E := by
  have hl : (L.set n (L.getD (L.getD n 0) 0)).length = L.length := by simp
  have h1 := h.rng n hn
  obtain ⟨r, M, hM, hr⟩ := h.rank
  have hloop : L.getD (L.getD n 0) 0 = n → L.getD n 0 = n := fun e => by
    apply Classical.byContradiction
    intro hne
    have a1 := hr n hn hne
    by_cases e2 : L.getD (L.getD n 0) 0 = L.getD n 0
    · exact hne (e2.symm.trans e)
    · have a2 := hr _ h1 e2
      rw [e] at a2
      omega
  refine ⟨fun i hi => ?_, fun i hi => ?_, fun i hi => ?_, fun i hi => h.out i (by rw [hl] at hi; exact hi), fun i hi => by rw [hl] at hi ⊢; exact h.erng i hi, h.idem, r, M, hM, fun i hi hne => ?_⟩
  · rw [hl] at hi ⊢
    rw [getD_setN hn]
    split
    · exact h.rng _ h1
    · exact h.rng i hi
  · rw [hl] at hi
    rw [getD_setN hn]
    split
    · rename_i e
      rw [h.st _ h1, h.st n hn, e]
    · exact h.st i hi
  · rw [hl] at hi
    rw [getD_setN hn]
    split
    · rename_i e
      subst e
      refine ⟨fun e => (h.fix i hn).1 (hloop e), fun e => ?_⟩
      have e1 := (h.fix i hn).2 e
      rw [e1, e1]
    · exact h.fix i hi
  · rw [hl] at hi
    rw [getD_setN hn] at hne ⊢
    split
    · rename_i e
      subst e
      rw [if_pos rfl] at hne
      have e1 : L.getD i 0 ≠ i := fun e => hne (by rw [e, e])
      have a1 := hr i hn e1
      by_cases e2 : L.getD (L.getD i 0) 0 = L.getD i 0
      · rw [e2]; exact a1
      · have a2 := hr _ h1 e2
        omega
    · rename_i e
      rw [if_neg e] at hne
      exact hr i hi hne
theorem Ld.bind {L : List Nat} {E : Nat → Nat} (h : Ld L E) {p : Nat × Nat} (h1 : p.1 < L.length) (h2 : p.2 < L.length) (hs : E p.1 = p.1) (hne : E p.2 ≠ p.1) : Ld (L.set p.1 p.2) (bindE E p) := by
  have hl : (L.set p.1 p.2).length = L.length := by simp
  obtain ⟨r, M, hM, hr⟩ := h.rank
  have hEE : ∀ x, bindE E p x = if E x = p.1 then E p.2 else E x := fun x => rfl
  have h2' : bindE E p p.2 = E p.2 := by rw [hEE, if_neg hne]
  have hrne : p.2 ≠ p.1 := fun e => hne (by rw [e]; exact hs)
  refine ⟨fun i hi => ?_, fun i hi => ?_, fun i hi => ?_, fun i hi => ?_, fun i hi => ?_, fun i => ?_, fun x => if E x = p.1 then r x + M + 1 else r x, M + M + 1, fun x => ?_, fun i hi hx => ?_⟩
  · rw [hl] at hi ⊢
    rw [getD_setN h1]
    split
    · exact h2
    · exact h.rng i hi
  · rw [hl] at hi
    rw [getD_setN h1]
    split
    · rename_i e
      rw [h2', e, hEE, if_pos hs]
    · rw [hEE, hEE, h.st i hi]
  · rw [hl] at hi
    rw [getD_setN h1]
    split
    · rename_i e
      rw [e, hEE, if_pos hs]
      exact ⟨fun e => absurd e hrne, fun e => absurd e hne⟩
    · rename_i e
      rw [hEE]
      split
      · rename_i e2
        refine ⟨fun e3 => ?_, fun e3 => ?_⟩
        · have := (h.fix i hi).1 e3
          omega
        · have h4 := h.idem p.2
          rw [e3] at h4
          omega
      · exact h.fix i hi
  · rw [hl] at hi
    have := h.out i hi
    rw [hEE, if_neg (by omega)]
    exact this
  · rw [hl] at hi ⊢
    rw [hEE]
    split
    · exact h.erng _ h2
    · exact h.erng i hi
  · rw [hEE i]
    split
    · rw [hEE, h.idem, if_neg hne]
    · rename_i e
      rw [hEE, h.idem, if_neg e]
  · have := hM x
    show (if E x = p.1 then r x + M + 1 else r x) ≤ _
    split <;> omega
  · rw [hl] at hi
    rw [getD_setN h1] at hx ⊢
    split
    · rename_i e
      subst e
      show (if E p.2 = p.1 then _ else r p.2) < (if E p.1 = p.1 then r p.1 + M + 1 else _)
      rw [if_neg hne, if_pos hs]
      have := hM p.2
      omega
    · rename_i e
      rw [if_neg e] at hx
      have := hr i hi hx
      show (if E (L.getD i 0) = p.1 then _ else _) < (if E i = p.1 then _ else _)
      rw [h.st i hi]
      split <;> omega
end Go.Proofs.YtlibjdilicfcdaaGreatDoor

namespace Go.Proofs.YtlibjdilicfcdaaGreatDoor
set_option maxRecDepth 100000
open Go.RowKit
structure Mo (S : Nat → Prop) (w w' : World) : Prop where
  os : w'.os = w.os
  tape : w'.tape = w.tape
  output : w'.output = w.output
  size : w.heap.size ≤ w'.heap.size
  block : ∀ k, k < w.heap.size → ¬ S k → w'.heap[k]? = w.heap[k]?
theorem Mo.refl (S : Nat → Prop) (w : World) : Mo S w w := ⟨rfl, rfl, rfl, Nat.le_refl _, fun _ _ _ => rfl⟩
theorem Mo.trans {S S' : Nat → Prop} {a b c : World} (h : Mo S a b) (k : Mo S' b c) (hs : ∀ x, S' x → S x ∨ a.heap.size ≤ x) : Mo S a c :=
  ⟨k.os.trans h.os, k.tape.trans h.tape, k.output.trans h.output, Nat.le_trans h.size k.size, fun i hi hn =>
    (k.block i (Nat.lt_of_lt_of_le hi h.size) (fun hx => by rcases hs i hx with h1 | h1; exact hn h1; omega)).trans (h.block i hi hn)⟩
theorem Mo.below {S : Nat → Prop} {w w' : World} {B : Nat} (h : Mo S w w') (hk : ∀ k, S k → B ≤ k) (hB : B ≤ w.heap.size) : Below B w w' :=
  ⟨h.os, h.tape, h.output, h.size, fun k hkB => h.block k (by omega) (fun hx => by have := hk k hx; omega)⟩
theorem Mo.ofBelow {S : Nat → Prop} {w w' : World} (h : Below w.heap.size w w') : Mo S w w' := ⟨h.os, h.tape, h.output, h.size, fun k hk _ => h.block k hk⟩
theorem Mo.grown {S : Nat → Prop} {a w w' : World} {row : Option Nat} (h : Mo S a w) (hg : w.grownBy w' row) (hr : ∀ k, row = some k → S k ∨ a.heap.size ≤ k) : Mo S a w' :=
  ⟨hg.os.trans h.os, hg.tape.trans h.tape, hg.output.trans h.output, Nat.le_trans h.size hg.size, fun k hk hn =>
    (hg.block k (Nat.lt_of_lt_of_le hk h.size) (fun e => by rcases hr k e.symm with h1 | h1; exact hn h1; omega)).trans (h.block k hk hn)⟩
theorem Mo.alloc {S : Nat → Prop} {a w : World} (h : Mo S a w) (o : Obj) : Mo S a (w.alloc o) := h.grown (World.grownBy_alloc w o none) (fun _ e => by cases e)
theorem Mo.setCell {S : Nat → Prop} {a w : World} (h : Mo S a w) {p : Addr} (hp : S p.block ∨ a.heap.size ≤ p.block) (u : Value) : Mo S a (w.setCell p u) :=
  ⟨h.os, h.tape, h.output, by simpa using h.size, fun k hk hn =>
    (Below.heap_setCell w p u k (fun e => by subst e; rcases hp with h1 | h1; exact hn h1; omega)).trans (h.block k hk hn)⟩
theorem Mo.drew {S : Nat → Prop} {a w : World} (h : Mo S a w) : Mo S a w.drew := ⟨h.os, h.tape, h.output, h.size, h.block⟩
theorem Mo.weak {S S' : Nat → Prop} {w w' : World} (h : Mo S w w') (hs : ∀ x, S x → S' x ∨ w.heap.size ≤ x) : Mo S' w w' := (Mo.refl S' w).trans h hs
end Go.Proofs.YtlibjdilicfcdaaGreatDoor

namespace Go.Proofs.YtlibjdilicfcdaaGreatDoor
set_option maxRecDepth 100000
open Go.RowKit
def KeptP (B : Nat) (Ks : Nat → Prop) (W W' : World) : Prop := W.heap.size ≤ W'.heap.size ∧ ∀ k, (Ks k ∨ B ≤ k) → k < W.heap.size → W'.heap[k]? = W.heap[k]?
theorem KeptP.trans {B : Nat} {Ks : Nat → Prop} {X Y Z : World} (h : KeptP B Ks X Y) (k : KeptP B Ks Y Z) : KeptP B Ks X Z :=
  ⟨Nat.le_trans h.1 k.1, fun i hi hl => (k.2 i hi (Nat.lt_of_lt_of_le hl h.1)).trans (h.2 i hi hl)⟩
theorem KeptP.ofBelow {B : Nat} {Ks : Nat → Prop} {W W' : World} (h : Below W.heap.size W W') : KeptP B Ks W W' := ⟨h.size, fun k _ hl => h.block k hl⟩
def toldPostP {α : Type} (B : Nat) (Ks : Nat → Prop) (I : List α → World → Prop) (Ix : Code → List α → World → Prop) (xs : List α) (W : World) : Exit → Act → World → Prop
  | .normal, _, W' => KeptP B Ks W W' ∧ I xs W'
  | .ret, _, W' => KeptP B Ks W W' ∧ Ix .ret xs W'
  | .exit id, _, W' => KeptP B Ks W W' ∧ Ix (.exit id) xs W'
  | .goto t, _, W' => KeptP B Ks W W' ∧ Ix (.goto t) xs W'
  | .panic _, _, _ => False
  | .outgrown, _, _ => False
def TellsP {α : Type} (n : Nat) (P : Program) (gf : Nat) (lb : Array Value) (encs : α → Array Value) (B : Nat) (Ks : Nat → Prop) (T : List α → α → World → Prop) (S : List α → Prop) (w : World) : Prop :=
  ∀ (l : Nat) (J Jx : List α → World → Prop) (W : World), Below w.heap.size w W → B ≤ W.heap.size → (∀ s A A', J s A → Below A.heap.size A A' → J s A') → (∀ s A A', Jx s A → Below A.heap.size A A' → Jx s A') →
    (∀ pre x W1, J pre W1 → T pre x W1 → YieldAt Fence.wide (n - 1) P l (encs x) W1 fun e W' =>
      (e = .returned (.bool true) ∧ J (pre ++ [x]) W' ∧ KeptP B Ks W1 W') ∨ (e = .returned (.bool false) ∧ Jx (pre ++ [x]) W')) → J [] W →
    CallsIn Fence.wide n P gf (#[.func (.yield l) #[] #[]] ++ lb) W fun e W' => (∃ v, e = .returned v) ∧ ((∃ xs, S xs ∧ J xs W') ∨ ∃ pre, Jx pre W')
section
variable {α : Type} {n : Nat} {P : Program} {g : Operand} {ps : Array Tmp} {assign body : Code} {Q : Exit → Act → World → Prop} {a : Act} {w : World} {gf : Nat} {lb : Array Value} {encs : α → Array Value} {Ks : Nat → Prop}
theorem told_roundP {fn : FuncId} {I : List α → World → Prop} {Ix : Code → List α → World → Prop} {T : List α → α → World → Prop} (hps : ∀ x, (encs x).size = ps.size) (hBs : ∀ k, Ks k → k < w.heap.size)
    (hI : ∀ s A A', I s A → Nb w.heap.size A A' → I s A') (hIx : ∀ c s A A', Ix c s A → Nb w.heap.size A A' → Ix c s A') (hT : ∀ s x A A', T s x A → Nb w.heap.size A A' → T s x A') {Ax : α → Act → World → Prop} (hAx : ∀ x a' A A', Ax x a' A → Nb w.heap.size A A' → Ax x a' A')
    (hassign : ∀ (l : Nat) (x : α) (W : World) (K : Act → World → Prop), w.heap.size ≤ W.heap.size → (∀ a' W', Below W.heap.size W W' → Ax x a' W' → K a' W') →
      assign.wpIn (Fence.wide.inRound l) n P (Exit.then K (fun _ _ _ => False)) { tmps := (ps.zip (encs x)).foldl (fun t (p, v) => t.setIfInBounds p v) a.tmps, defers := [] } W)
    (hbody : ∀ (l : Nat) (pre : List α) (x : α) (a' : Act) (W : World), I pre W → T pre x W → Ax x a' W → body.wpIn (Fence.wide.inRound l) n P (toldPostP w.heap.size Ks I Ix (pre ++ [x]) W) a' W)
    {pre : List α} {x : α} {W : World} (hi : I pre W) (ht : T pre x W) (hl : W.heap[w.heap.size + 1]? = some (.loop (recL fn a.tmps ps assign body w.heap.size .ready none))) (hk : W.heap[w.heap.size]? = some (.deferred (some []))) :
    YieldAt Fence.wide n P (w.heap.size + 1) (encs x) W fun e W' =>
      (e = .returned (.bool true) ∧ (I (pre ++ [x]) W' ∧ W'.heap[w.heap.size + 1]? = some (.loop (recL fn a.tmps ps assign body w.heap.size .ready none)) ∧ W'.heap[w.heap.size]? = some (.deferred (some []))) ∧ KeptP (w.heap.size + 2) Ks W W') ∨
      (e = .returned (.bool false) ∧ ∃ c, Ix c (pre ++ [x]) W' ∧ W'.heap[w.heap.size + 1]? = some (.loop (recL fn a.tmps ps assign body w.heap.size .done (some c))) ∧ W'.heap[w.heap.size]? = some (.deferred (some []))) := by
  refine ⟨fn, _, assign, body, run_yield hl (hps x), roundIn_of_wpIn trivial (hassign _ x W _ (by have := lt_heap hk; omega) fun a' W0 hb0 hax => ?_)⟩
  have hl0 : W0.heap[w.heap.size + 1]? = some (.loop (recL fn a.tmps ps assign body w.heap.size .ready none)) := by rw [hb0.block _ (lt_heap hl)]; exact hl
  have hk0 : W0.heap[w.heap.size]? = some (.deferred (some [])) := by rw [hb0.block _ (lt_heap hk)]; exact hk
  have hn0 : Nb w.heap.size W W0 := Nb.ofBelow hb0
  have hK0 : KeptP (w.heap.size + 2) Ks W W0 := KeptP.ofBelow hb0
  refine ⟨_, run_beginRound hl0 rfl, ?_⟩
  have hlt := lt_heap hl0
  obtain ⟨W1, hW1⟩ : ∃ W1, W1 = W0.putObj (w.heap.size + 1) (.loop { recL fn a.tmps ps assign body w.heap.size .ready none with state := .busy }) := ⟨_, rfl⟩
  have hl1 : W1.heap[w.heap.size + 1]? = some (.loop (recL fn a.tmps ps assign body w.heap.size .busy none)) := by rw [hW1]; exact World.putObj_heap_same hlt
  have hk1 : W1.heap[w.heap.size]? = some (.deferred (some [])) := by rw [hW1]; exact (World.putObj_heap_other (by omega)).trans hk0
  have hn1 : Nb w.heap.size W0 W1 := by rw [hW1]; exact Nb.put _ (by omega) hl0 rfl
  have hz1 : W1.heap.size = W0.heap.size := by rw [hW1]; simp
  have hK1 : KeptP (w.heap.size + 2) Ks W W1 := hK0.trans ⟨by omega, fun k hk' _ => by rw [hW1]; exact World.putObj_heap_other (by rcases hk' with h | h; have := hBs k h; omega; omega)⟩
  rw [← hW1]
  have fin : ∀ (jump : Option Code) (W3 : World), KeptP w.heap.size Ks W1 W3 → ∃ W4, (Instr.endRound (w.heap.size + 1) jump).run P W3 = .ok (.bool jump.isNone) W4 ∧ Nb w.heap.size W3 W4 ∧ KeptP (w.heap.size + 2) Ks W W4 ∧
      W4.heap[w.heap.size + 1]? = some (.loop (recL fn a.tmps ps assign body w.heap.size (if jump.isNone then .ready else .done) jump)) ∧ W4.heap[w.heap.size]? = some (.deferred (some [])) := fun jump W3 hk3 => by
    have hl3 : W3.heap[w.heap.size + 1]? = some (.loop (recL fn a.tmps ps assign body w.heap.size .busy none)) := (hk3.2 _ (Or.inr (by omega)) (by omega)).trans hl1
    have hd3 : W3.heap[w.heap.size]? = some (.deferred (some [])) := (hk3.2 _ (Or.inr (Nat.le_refl _)) (by omega)).trans hk1
    refine ⟨_, run_endRound jump hl3, Nb.put _ (by omega) hl3 rfl, hK1.trans (KeptP.trans ⟨hk3.1, fun k hk' hlk => hk3.2 k (by rcases hk' with h | h; exact Or.inl h; exact Or.inr (by omega)) hlk⟩ ⟨by simp, fun k hk' _ => World.putObj_heap_other (by rcases hk' with h | h; have := hBs k h; omega; omega)⟩), World.putObj_heap_same (lt_heap hl3), (World.putObj_heap_other (by omega)).trans hd3⟩
  refine wpIn_mono (hbody _ pre x a' W1 (hI _ _ _ (hI _ _ _ hi hn0) hn1) (hT _ _ _ _ (hT _ _ _ _ ht hn0) hn1) (hAx _ _ _ _ hax hn1)) ?_
  rintro e a3 W3 hp
  cases e with
  | normal =>
    obtain ⟨W4, h1, h2, h3, h4, h5⟩ := fin none W3 hp.1
    exact ⟨_, W4, h1, .inl ⟨rfl, ⟨hI _ _ _ hp.2 h2, h4, h5⟩, h3⟩⟩
  | ret =>
    obtain ⟨W4, h1, h2, h3, h4, h5⟩ := fin (some .ret) W3 hp.1
    exact ⟨_, W4, h1, .inr ⟨rfl, .ret, hIx _ _ _ _ hp.2 h2, h4, h5⟩⟩
  | exit id =>
    obtain ⟨W4, h1, h2, h3, h4, h5⟩ := fin (some (.exit id)) W3 hp.1
    exact ⟨_, W4, h1, .inr ⟨rfl, .exit id, hIx _ _ _ _ hp.2 h2, h4, h5⟩⟩
  | goto t =>
    obtain ⟨W4, h1, h2, h3, h4, h5⟩ := fin (some (.goto t)) W3 hp.1
    exact ⟨_, W4, h1, .inr ⟨rfl, .goto t, hIx _ _ _ _ hp.2 h2, h4, h5⟩⟩
  | panic ch => exact hp.elim
  | outgrown => exact hp.elim
theorem range_toldP (hg : a.eval g = .func (.func gf) #[] lb) (eg : ∀ args w, (callFunc gf args).run P w = .ok (.enter gf args) w) (hps : ∀ x, (encs x).size = ps.size) (hn : 1 ≤ n) (hBs : ∀ k, Ks k → k < w.heap.size)
    {I : List α → World → Prop} {Ix : Code → List α → World → Prop} {T : List α → α → World → Prop} {S : List α → Prop} (hseq : TellsP (n - 1) P gf lb encs (w.heap.size + 2) Ks T S w)
    (hI : ∀ s A A', I s A → Nb w.heap.size A A' → I s A') (hIx : ∀ c s A A', Ix c s A → Nb w.heap.size A A' → Ix c s A') (hT : ∀ s x A A', T s x A → Nb w.heap.size A A' → T s x A') (h0 : I [] w) {Ax : α → Act → World → Prop} (hAx : ∀ x a' A A', Ax x a' A → Nb w.heap.size A A' → Ax x a' A')
    (hassign : ∀ (l : Nat) (x : α) (W : World) (K : Act → World → Prop), w.heap.size ≤ W.heap.size → (∀ a' W', Below W.heap.size W W' → Ax x a' W' → K a' W') →
      assign.wpIn (Fence.wide.inRound l) (n - 1 - 1) P (Exit.then K (fun _ _ _ => False)) { tmps := (ps.zip (encs x)).foldl (fun t (p, v) => t.setIfInBounds p v) a.tmps, defers := [] } W)
    (hbody : ∀ (l : Nat) (pre : List α) (x : α) (a' : Act) (W : World), I pre W → T pre x W → Ax x a' W → body.wpIn (Fence.wide.inRound l) (n - 1 - 1) P (toldPostP w.heap.size Ks I Ix (pre ++ [x]) W) a' W)
    (hdone : ∀ (D : Nat) (xs : List α) (W : World), w.heap.size ≤ D → S xs → I xs W → W.heap[D]? = some (.deferred (some [])) → Q .normal { a with defers := { target := .collected D, args := #[] } :: a.defers } W)
    (hstop : ∀ (D : Nat) (c : Code) (pre : List α) (W : World), w.heap.size ≤ D → Ix c pre W → W.heap[D]? = some (.deferred (some [])) → c.wpIn Fence.wide n P Q { a with defers := { target := .collected D, args := #[] } :: a.defers } W) :
    (Code.rangeFunc g ps assign body).wpIn Fence.wide n P Q a w := by
  refine wpIn_rangeFunc fun fn _ => ?_
  obtain ⟨W1, hW1⟩ : ∃ W1, W1 = (w.alloc (.deferred (some []))).alloc (.loop (recL fn a.tmps ps assign body w.heap.size .ready none)) := ⟨_, rfl⟩
  have hl1 : W1.heap[w.heap.size + 1]? = some (.loop (recL fn a.tmps ps assign body w.heap.size .ready none)) := by
    rw [hW1]
    have := World.alloc_heap_new (w.alloc (.deferred (some []))) (.loop (recL fn a.tmps ps assign body w.heap.size .ready none))
    rwa [World.size_alloc] at this
  have hk1 : W1.heap[w.heap.size]? = some (.deferred (some [])) := by
    rw [hW1]
    exact (Below.heap_alloc _ _ _ (by simp)).trans (World.alloc_heap_new w _)
  have hb1 : Below w.heap.size w W1 := by
    rw [hW1]
    exact ((Below.refl _ w).alloc (Nat.le_refl _) _).alloc (by simp) _
  have hz1 : w.heap.size + 2 ≤ W1.heap.size := by
    rw [hW1]
    simp
  have keep : ∀ {A A' : World} {k : Nat} {o : Obj}, A.heap[k]? = some o → Below A.heap.size A A' → A'.heap[k]? = some o := fun h hb => by
    rw [hb.block _ (lt_heap h)]
    exact h
  refine ⟨w.heap.size + 1, [{ target := .collected w.heap.size, args := #[] }], W1, { target := .fn (.func gf) lb, args := #[.func (.yield (w.heap.size + 1)) #[] #[]] }, W1, gf,
    #[.func (.yield (w.heap.size + 1)) #[] #[]] ++ lb, W1, by rw [hW1]; exact run_enterLoop_outer _ _ _ _ _, by simp only [resolve, hg]; simp [go_sem], fun f' hf' => by simp [Target.leads] at hf'; exact trivial, by simp [invoke, go_sem, eg], fun _ => hn, ?_⟩
  refine (hseq (w.heap.size + 1)
    (fun pre W => I pre W ∧ W.heap[w.heap.size + 1]? = some (.loop (recL fn a.tmps ps assign body w.heap.size .ready none)) ∧ W.heap[w.heap.size]? = some (.deferred (some [])))
    (fun pre W => ∃ c, Ix c pre W ∧ W.heap[w.heap.size + 1]? = some (.loop (recL fn a.tmps ps assign body w.heap.size .done (some c))) ∧ W.heap[w.heap.size]? = some (.deferred (some [])))
    W1 hb1 hz1 (fun s A A' h hb => ⟨hI _ _ _ h.1 (Nb.ofBelow hb), keep h.2.1 hb, keep h.2.2 hb⟩)
    (fun s A A' h hb => by obtain ⟨c, h1, h2, h3⟩ := h; exact ⟨c, hIx _ _ _ _ h1 (Nb.ofBelow hb), keep h2 hb, keep h3 hb⟩)
    (fun pre x W h ht => told_roundP hps hBs hI hIx hT hAx hassign hbody h.1 ht h.2.1 h.2.2) ⟨hI _ _ _ h0 (Nb.ofBelow hb1), hl1, hk1⟩).mono ?_
  rintro e W2 ⟨⟨v, rfl⟩, ⟨xs, hS, hi, hl, hk⟩ | ⟨pre, c, hi, hl, hk⟩⟩
  · exact ⟨none, _, run_endLoop hl (by simp [recL]), hdone _ xs _ (Nat.le_refl _) hS (hI _ _ _ hi (Nb.put _ (by omega) hl rfl)) ((World.putObj_heap_other (by omega)).trans hk)⟩
  · exact ⟨some c, _, run_endLoop hl (by simp [recL]), hstop _ c pre _ (Nat.le_refl _) (hIx _ _ _ _ hi (Nb.put _ (by omega) hl rfl)) ((World.putObj_heap_other (by omega)).trans hk)⟩
end
end Go.Proofs.YtlibjdilicfcdaaGreatDoor
