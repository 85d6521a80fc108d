/- A range over a function whose iterator reads memory of its own: the law of the statement, in the wide fence. -/
import Derived.Shelf.Pu.Clone
import Derived.Test.YtgmldkojldlekaaGreatDoorSR00Z
import Derived.Test.YtgmldkojldlekaaGreatDoorSR01Z
namespace Go.Proofs.YtgmldkojldlekaaGreatDoor
set_option maxRecDepth 100000
open Go.RowKit
def KeptP (B : Nat) (Ks : Nat → Prop) (W W' : World) : Prop := W.heap.size ≤ W'.heap.size ∧ ∀ k, (Ks k ∨ B ≤ k) → k < W.heap.size → W'.heap[k]? = W.heap[k]?
theorem KeptP.trans {B : Nat} {Ks : Nat → Prop} {X Y Z : World} (h : KeptP B Ks X Y) (k : KeptP B Ks Y Z) : KeptP B Ks X Z :=
  ⟨Nat.le_trans h.1 k.1, fun i hi hl => (k.2 i hi (Nat.lt_of_lt_of_le hl h.1)).trans (h.2 i hi hl)⟩
theorem KeptP.ofBelow {B : Nat} {Ks : Nat → Prop} {W W' : World} (h : Below W.heap.size W W') : KeptP B Ks W W' := ⟨h.size, fun k _ hl => h.block k hl⟩
def toldPostP {α : Type} (B : Nat) (Ks : Nat → Prop) (I : List α → World → Prop) (Ix : Code → List α → World → Prop) (xs : List α) (W : World) : Exit → Act → World → Prop
  | .normal, _, W' => KeptP B Ks W W' ∧ I xs W'
  | .ret, _, W' => KeptP B Ks W W' ∧ Ix .ret xs W'
  | .exit id, _, W' => KeptP B Ks W W' ∧ Ix (.exit id) xs W'
  | .goto t, _, W' => KeptP B Ks W W' ∧ Ix (.goto t) xs W'
  | .panic _, _, _ => False
  | .outgrown, _, _ => False
def TellsP {α : Type} (n : Nat) (P : Program) (gf : Nat) (lb : Array Value) (encs : α → Array Value) (B : Nat) (Ks : Nat → Prop) (T : List α → α → World → Prop) (S : List α → Prop) (w : World) : Prop :=
  ∀ (l : Nat) (J Jx : List α → World → Prop) (W : World), Below w.heap.size w W → B ≤ W.heap.size → (∀ s A A', J s A → Below A.heap.size A A' → J s A') → (∀ s A A', Jx s A → Below A.heap.size A A' → Jx s A') →
    (∀ pre x W1, J pre W1 → T pre x W1 → YieldAt Fence.wide (n - 1) P l (encs x) W1 fun e W' =>
      (e = .returned (.bool true) ∧ J (pre ++ [x]) W' ∧ KeptP B Ks W1 W') ∨ (e = .returned (.bool false) ∧ Jx (pre ++ [x]) W')) → J [] W →
    CallsIn Fence.wide n P gf (#[.func (.yield l) #[] #[]] ++ lb) W fun e W' => (∃ v, e = .returned v) ∧ ((∃ xs, S xs ∧ J xs W') ∨ ∃ pre, Jx pre W')
section
variable {α : Type} {n : Nat} {P : Program} {g : Operand} {ps : Array Tmp} {assign body : Code} {Q : Exit → Act → World → Prop} {a : Act} {w : World} {gf : Nat} {lb : Array Value} {encs : α → Array Value} {Ks : Nat → Prop}
theorem told_roundP {fn : FuncId} {I : List α → World → Prop} {Ix : Code → List α → World → Prop} {T : List α → α → World → Prop} (hps : ∀ x, (encs x).size = ps.size) (hBs : ∀ k, Ks k → k < w.heap.size)
    (hI : ∀ s A A', I s A → Nb w.heap.size A A' → I s A') (hIx : ∀ c s A A', Ix c s A → Nb w.heap.size A A' → Ix c s A') (hT : ∀ s x A A', T s x A → Nb w.heap.size A A' → T s x A') {Ax : α → Act → World → Prop} (hAx : ∀ x a' A A', Ax x a' A → Nb w.heap.size A A' → Ax x a' A')
    (hassign : ∀ (l : Nat) (x : α) (W : World) (K : Act → World → Prop), w.heap.size ≤ W.heap.size → (∀ a' W', Below W.heap.size W W' → Ax x a' W' → K a' W') →
      assign.wpIn (Fence.wide.inRound l) n P (Exit.then K (fun _ _ _ => False)) { tmps := (ps.zip (encs x)).foldl (fun t (p, v) => t.setIfInBounds p v) a.tmps, defers := [] } W)
    (hbody : ∀ (l : Nat) (pre : List α) (x : α) (a' : Act) (W : World), I pre W → T pre x W → Ax x a' W → body.wpIn (Fence.wide.inRound l) n P (toldPostP w.heap.size Ks I Ix (pre ++ [x]) W) a' W)
    {pre : List α} {x : α} {W : World} (hi : I pre W) (ht : T pre x W) (hl : W.heap[w.heap.size + 1]? = some (.loop (recL fn a.tmps ps assign body w.heap.size .ready none))) (hk : W.heap[w.heap.size]? = some (.deferred (some []))) :
    YieldAt Fence.wide n P (w.heap.size + 1) (encs x) W fun e W' =>
      (e = .returned (.bool true) ∧ (I (pre ++ [x]) W' ∧ W'.heap[w.heap.size + 1]? = some (.loop (recL fn a.tmps ps assign body w.heap.size .ready none)) ∧ W'.heap[w.heap.size]? = some (.deferred (some []))) ∧ KeptP (w.heap.size + 2) Ks W W') ∨
      (e = .returned (.bool false) ∧ ∃ c, Ix c (pre ++ [x]) W' ∧ W'.heap[w.heap.size + 1]? = some (.loop (recL fn a.tmps ps assign body w.heap.size .done (some c))) ∧ W'.heap[w.heap.size]? = some (.deferred (some []))) := by
  refine ⟨fn, _, assign, body, run_yield hl (hps x), roundIn_of_wpIn trivial (hassign _ x W _ (by have := lt_heap hk; omega) fun a' W0 hb0 hax => ?_)⟩
  have hl0 : W0.heap[w.heap.size + 1]? = some (.loop (recL fn a.tmps ps assign body w.heap.size .ready none)) := by rw [hb0.block _ (lt_heap hl)]; exact hl
  have hk0 : W0.heap[w.heap.size]? = some (.deferred (some [])) := by rw [hb0.block _ (lt_heap hk)]; exact hk
  have hn0 : Nb w.heap.size W W0 := Nb.ofBelow hb0
  have hK0 : KeptP (w.heap.size + 2) Ks W W0 := KeptP.ofBelow hb0
  refine ⟨_, run_beginRound hl0 rfl, ?_⟩
  have hlt := lt_heap hl0
  obtain ⟨W1, hW1⟩ : ∃ W1, W1 = W0.putObj (w.heap.size + 1) (.loop { recL fn a.tmps ps assign body w.heap.size .ready none with state := .busy }) := ⟨_, rfl⟩
  have hl1 : W1.heap[w.heap.size + 1]? = some (.loop (recL fn a.tmps ps assign body w.heap.size .busy none)) := by rw [hW1]; exact World.putObj_heap_same hlt
  have hk1 : W1.heap[w.heap.size]? = some (.deferred (some [])) := by rw [hW1]; exact (World.putObj_heap_other (by omega)).trans hk0
  have hn1 : Nb w.heap.size W0 W1 := by rw [hW1]; exact Nb.put _ (by omega) hl0 rfl
  have hz1 : W1.heap.size = W0.heap.size := by rw [hW1]; simp
  have hK1 : KeptP (w.heap.size + 2) Ks W W1 := hK0.trans ⟨by omega, fun k hk' _ => by rw [hW1]; exact World.putObj_heap_other (by rcases hk' with h | h; have := hBs k h; omega; omega)⟩
  rw [← hW1]
  have fin : ∀ (jump : Option Code) (W3 : World), KeptP w.heap.size Ks W1 W3 → ∃ W4, (Instr.endRound (w.heap.size + 1) jump).run P W3 = .ok (.bool jump.isNone) W4 ∧ Nb w.heap.size W3 W4 ∧ KeptP (w.heap.size + 2) Ks W W4 ∧
      W4.heap[w.heap.size + 1]? = some (.loop (recL fn a.tmps ps assign body w.heap.size (if jump.isNone then .ready else .done) jump)) ∧ W4.heap[w.heap.size]? = some (.deferred (some [])) := fun jump W3 hk3 => by
    have hl3 : W3.heap[w.heap.size + 1]? = some (.loop (recL fn a.tmps ps assign body w.heap.size .busy none)) := (hk3.2 _ (Or.inr (by omega)) (by omega)).trans hl1
    have hd3 : W3.heap[w.heap.size]? = some (.deferred (some [])) := (hk3.2 _ (Or.inr (Nat.le_refl _)) (by omega)).trans hk1
    refine ⟨_, run_endRound jump hl3, Nb.put _ (by omega) hl3 rfl, hK1.trans (KeptP.trans ⟨hk3.1, fun k hk' hlk => hk3.2 k (by rcases hk' with h | h; exact Or.inl h; exact Or.inr (by omega)) hlk⟩ ⟨by simp, fun k hk' _ => World.putObj_heap_other (by rcases hk' with h | h; have := hBs k h; omega; omega)⟩), World.putObj_heap_same (lt_heap hl3), (World.putObj_heap_other (by omega)).trans hd3⟩
  refine wpIn_mono (hbody _ pre x a' W1 (hI _ _ _ (hI _ _ _ hi hn0) hn1) (hT _ _ _ _ (hT _ _ _ _ ht hn0) hn1) (hAx _ _ _ _ hax hn1)) ?_
  rintro e a3 W3 hp
  cases e with
  | normal =>
    obtain ⟨W4, h1, h2, h3, h4, h5⟩ := fin none W3 hp.1
    exact ⟨_, W4, h1, .inl ⟨rfl, ⟨hI _ _ _ hp.2 h2, h4, h5⟩, h3⟩⟩
  | ret =>
    obtain ⟨W4, h1, h2, h3, h4, h5⟩ := fin (some .ret) W3 hp.1
    exact ⟨_, W4, h1, .inr ⟨rfl, .ret, hIx _ _ _ _ hp.2 h2, h4, h5⟩⟩
  | exit id =>
    obtain ⟨W4, h1, h2, h3, h4, h5⟩ := fin (some (.exit id)) W3 hp.1
    exact ⟨_, W4, h1, .inr ⟨rfl, .exit id, hIx _ _ _ _ hp.2 h2, h4, h5⟩⟩
  | goto t =>
    obtain ⟨W4, h1, h2, h3, h4, h5⟩ := fin (some (.goto t)) W3 hp.1
    exact ⟨_, W4, h1, .inr ⟨rfl, .goto t, hIx _ _ _ _ hp.2 h2, h4, h5⟩⟩
  | panic ch => exact hp.elim
  | outgrown => exact hp.elim
theorem range_toldP (hg : a.eval g = .func (.func gf) #[] lb) (eg : ∀ args w, (callFunc gf args).run P w = .ok (.enter gf args) w) (hps : ∀ x, (encs x).size = ps.size) (hn : 1 ≤ n) (hBs : ∀ k, Ks k → k < w.heap.size)
    {I : List α → World → Prop} {Ix : Code → List α → World → Prop} {T : List α → α → World → Prop} {S : List α → Prop} (hseq : TellsP (n - 1) P gf lb encs (w.heap.size + 2) Ks T S w)
    (hI : ∀ s A A', I s A → Nb w.heap.size A A' → I s A') (hIx : ∀ c s A A', Ix c s A → Nb w.heap.size A A' → Ix c s A') (hT : ∀ s x A A', T s x A → Nb w.heap.size A A' → T s x A') (h0 : I [] w) {Ax : α → Act → World → Prop} (hAx : ∀ x a' A A', Ax x a' A → Nb w.heap.size A A' → Ax x a' A')
    (hassign : ∀ (l : Nat) (x : α) (W : World) (K : Act → World → Prop), w.heap.size ≤ W.heap.size → (∀ a' W', Below W.heap.size W W' → Ax x a' W' → K a' W') →
      assign.wpIn (Fence.wide.inRound l) (n - 1 - 1) P (Exit.then K (fun _ _ _ => False)) { tmps := (ps.zip (encs x)).foldl (fun t (p, v) => t.setIfInBounds p v) a.tmps, defers := [] } W)
    (hbody : ∀ (l : Nat) (pre : List α) (x : α) (a' : Act) (W : World), I pre W → T pre x W → Ax x a' W → body.wpIn (Fence.wide.inRound l) (n - 1 - 1) P (toldPostP w.heap.size Ks I Ix (pre ++ [x]) W) a' W)
    (hdone : ∀ (D : Nat) (xs : List α) (W : World), w.heap.size ≤ D → S xs → I xs W → W.heap[D]? = some (.deferred (some [])) → Q .normal { a with defers := { target := .collected D, args := #[] } :: a.defers } W)
    (hstop : ∀ (D : Nat) (c : Code) (pre : List α) (W : World), w.heap.size ≤ D → Ix c pre W → W.heap[D]? = some (.deferred (some [])) → c.wpIn Fence.wide n P Q { a with defers := { target := .collected D, args := #[] } :: a.defers } W) :
    (Code.rangeFunc g ps assign body).wpIn Fence.wide n P Q a w := by
  refine wpIn_rangeFunc fun fn _ => ?_
  obtain ⟨W1, hW1⟩ : ∃ W1, W1 = (w.alloc (.deferred (some []))).alloc (.loop (recL fn a.tmps ps assign body w.heap.size .ready none)) := ⟨_, rfl⟩
  have hl1 : W1.heap[w.heap.size + 1]? = some (.loop (recL fn a.tmps ps assign body w.heap.size .ready none)) := by
    rw [hW1]
    have := World.alloc_heap_new (w.alloc (.deferred (some []))) (.loop (recL fn a.tmps ps assign body w.heap.size .ready none))
    rwa [World.size_alloc] at this
  have hk1 : W1.heap[w.heap.size]? = some (.deferred (some [])) := by
    rw [hW1]
    exact (Below.heap_alloc _ _ _ (by simp)).trans (World.alloc_heap_new w _)
  have hb1 : Below w.heap.size w W1 := by
    rw [hW1]
    exact ((Below.refl _ w).alloc (Nat.le_refl _) _).alloc (by simp) _
  have hz1 : w.heap.size + 2 ≤ W1.heap.size := by
    rw [hW1]
    simp
  have keep : ∀ {A A' : World} {k : Nat} {o : Obj}, A.heap[k]? = some o → Below A.heap.size A A' → A'.heap[k]? = some o := fun h hb => by
    rw [hb.block _ (lt_heap h)]
    exact h
  refine ⟨w.heap.size + 1, [{ target := .collected w.heap.size, args := #[] }], W1, { target := .fn (.func gf) lb, args := #[.func (.yield (w.heap.size + 1)) #[] #[]] }, W1, gf,
    #[.func (.yield (w.heap.size + 1)) #[] #[]] ++ lb, W1, by rw [hW1]; exact run_enterLoop_outer _ _ _ _ _, by simp only [resolve, hg]; simp [go_sem], fun f' hf' => by simp [Target.leads] at hf'; exact trivial, by simp [invoke, go_sem, eg], fun _ => hn, ?_⟩
  refine (hseq (w.heap.size + 1)
    (fun pre W => I pre W ∧ W.heap[w.heap.size + 1]? = some (.loop (recL fn a.tmps ps assign body w.heap.size .ready none)) ∧ W.heap[w.heap.size]? = some (.deferred (some [])))
    (fun pre W => ∃ c, Ix c pre W ∧ W.heap[w.heap.size + 1]? = some (.loop (recL fn a.tmps ps assign body w.heap.size .done (some c))) ∧ W.heap[w.heap.size]? = some (.deferred (some [])))
    W1 hb1 hz1 (fun s A A' h hb => ⟨hI _ _ _ h.1 (Nb.ofBelow hb), keep h.2.1 hb, keep h.2.2 hb⟩)
    (fun s A A' h hb => by obtain ⟨c, h1, h2, h3⟩ := h; exact ⟨c, hIx _ _ _ _ h1 (Nb.ofBelow hb), keep h2 hb, keep h3 hb⟩)
    (fun pre x W h ht => told_roundP hps hBs hI hIx hT hAx hassign hbody h.1 ht h.2.1 h.2.2) ⟨hI _ _ _ h0 (Nb.ofBelow hb1), hl1, hk1⟩).mono ?_
  rintro e W2 ⟨⟨v, rfl⟩, ⟨xs, hS, hi, hl, hk⟩ | ⟨pre, c, hi, hl, hk⟩⟩
  · exact ⟨none, _, run_endLoop hl (by simp [recL]), hdone _ xs _ (Nat.le_refl _) hS (hI _ _ _ hi (Nb.put _ (by omega) hl rfl)) ((World.putObj_heap_other (by omega)).trans hk)⟩
  · exact ⟨some c, _, run_endLoop hl (by simp [recL]), hstop _ c pre _ (Nat.le_refl _) (hIx _ _ _ _ hi (Nb.put _ (by omega) hl rfl)) ((World.putObj_heap_other (by omega)).trans hk)⟩
end
end Go.Proofs.YtgmldkojldlekaaGreatDoor

namespace Go.Proofs.YtgmldkojldlekaaGreatDoor
set_option maxRecDepth 100000
open Go.RowKit
theorem fun_val (n : Int) (h : goodB n = true) (ht : n % 8 = 4) : 0 ≤ valOf n ∧ valOf n / 16 < 1024 ∧ 1 ≤ valOf n % 16 ∧ valOf n % 16 ≤ 8 := by
  unfold goodB at h; rw [ht] at h; simp [fitsB] at h; omega
set_option maxHeartbeats 1000000 in
theorem place_yes (n : Int) (w : World) (h0 : 0 ≤ n) (h1 : n ≤ 18446744073709551615) (h : goodB n = true) (ht : n % 8 = 0 ∨ n % 8 = 3 ∨ n % 8 = 5) :
    Calls Tryz.prog 94 #[.int .u64 n] w fun e w' => e = .returned (.tuple #[.int .i64 (valOf n), .bool true]) ∧ w' = w := by
  rcases ht with ht | ht | ht
  all_goals
    go_enter Tryz.func94, Tryz.ntmps94
    go_wp2_with (first | (go_at_call 55; refine (tag_any _ _ h0 h1).mono ?_; rintro e w' ⟨rfl, rfl⟩) | (go_at_call 56; refine (value_any _ _).mono ?_; rintro e w' ⟨rfl, rfl⟩) | (go_at_call 112; refine (w_good_any _ _ h0 h1).mono ?_; rintro e w' ⟨rfl, rfl⟩))
    go_ret2
    exact ⟨rfl, rfl⟩
set_option maxHeartbeats 1000000 in
theorem place_no (n : Int) (w : World) (h0 : 0 ≤ n) (h1 : n ≤ 18446744073709551615) (h : goodB n = false ∨ (n % 8 ≠ 0 ∧ n % 8 ≠ 3 ∧ n % 8 ≠ 5)) :
    Calls Tryz.prog 94 #[.int .u64 n] w fun e w' => e = .returned (.tuple #[.int .i64 0, .bool false]) ∧ w' = w := by
  by_cases hg : goodB n = true
  · have ht : n % 8 ≠ 0 ∧ n % 8 ≠ 3 ∧ n % 8 ≠ 5 := by rw [hg] at h; simpa using h
    have b0 : (n % 8 == 0) = false := by simpa using ht.1
    have b3 : (n % 8 == 3) = false := by simpa using ht.2.1
    have b5 : (n % 8 == 5) = false := by simpa using ht.2.2
    clear h ht
    go_enter Tryz.func94, Tryz.ntmps94
    go_wp2_with (first | (go_at_call 55; refine (tag_any _ _ h0 h1).mono ?_; rintro e w' ⟨rfl, rfl⟩) | (go_at_call 56; refine (value_any _ _).mono ?_; rintro e w' ⟨rfl, rfl⟩) | (go_at_call 112; refine (w_good_any _ _ h0 h1).mono ?_; rintro e w' ⟨rfl, rfl⟩))
    go_ret2
    exact ⟨rfl, rfl⟩
  · have hg : goodB n = false := by simpa using hg
    clear h
    go_enter Tryz.func94, Tryz.ntmps94
    go_wp2_with (first | (go_at_call 55; refine (tag_any _ _ h0 h1).mono ?_; rintro e w' ⟨rfl, rfl⟩) | (go_at_call 56; refine (value_any _ _).mono ?_; rintro e w' ⟨rfl, rfl⟩) | (go_at_call 112; refine (w_good_any _ _ h0 h1).mono ?_; rintro e w' ⟨rfl, rfl⟩))
    go_ret2
    exact ⟨rfl, rfl⟩
end Go.Proofs.YtgmldkojldlekaaGreatDoor

namespace Go.Proofs.YtgmldkojldlekaaGreatDoor
set_option maxRecDepth 100000
open Go.RowKit Go.Maps
def n_cloneRen : Go.Shelf.Ren := ⟨fun _ => 64, fun n => if n = 37 then 161 else if n = 47 then 162 else n, fun n => n⟩
theorem n_cloneLays : LaysPu.n25 Tryz.prog n_cloneRen :=
  ⟨(by kernel_rfl), (by kernel_rfl), (by kernel_rfl), (fun _ => by kernel_rfl), (fun _ => by kernel_rfl), (fun _ => by kernel_rfl), (by kernel_rfl), (by kernel_rfl), (fun _ => by kernel_rfl), (fun _ => by kernel_rfl),
    (fun _ => by kernel_rfl), (by kernel_rfl), (by kernel_rfl), (fun _ => by kernel_rfl), (fun _ => by kernel_rfl), (fun _ => by kernel_rfl), (by kernel_rfl), (by kernel_rfl), (fun _ => by kernel_rfl), (fun _ => by kernel_rfl),
    (fun _ => by kernel_rfl), (by kernel_rfl), (by kernel_rfl), (fun _ => by kernel_rfl), (fun _ => by kernel_rfl), (fun _ => by kernel_rfl), (by kernel_rfl), (by kernel_rfl), (fun _ => by kernel_rfl), (fun _ => by kernel_rfl),
    (fun _ => by kernel_rfl), (by kernel_rfl), (by kernel_rfl), (fun _ => by kernel_rfl), (fun _ => by kernel_rfl), (fun _ => by kernel_rfl), (by kernel_rfl)⟩
theorem n_sclone_any (s : ByteArray) (w : World) (hs : s.size ≤ 281474976710656) :
    Calls Tryz.prog 64 #[.string s] w fun e w' => e = .returned (.string s) ∧ Below w.heap.size w w' := AnyPu.stringslite_Clone n_cloneLays s w hs
set_option maxHeartbeats 400000 in
theorem n_clone_any (s : ByteArray) (w : World) (hs : s.size ≤ 281474976710656) :
    Calls Tryz.prog 36 #[.string s] w fun e w' => e = .returned (.string s) ∧ Below w.heap.size w w' := by
  go_enter Tryz.func36, Tryz.ntmps36
  go_wp2_with (go_at_call 64; refine (n_sclone_any _ _ hs).mono ?_; rintro e w1 ⟨rfl, hb⟩)
  go_ret
  exact ⟨rfl, hb⟩
theorem infoS : (Tryz.prog.info? 9).map (fun i => (i.zero, i.size, i.bytes)) = some (some (.string ⟨#[]⟩), 1, 16) := by kernel_rfl
theorem n_run_append_still {w : World} {B : Nat} {v : Value} {l : List ByteArray} (ty : TypeId) (hown : w.ownsRow B 9 1 v l.length (l.map Value.string)) (ad : Addr) (c : Nat) (s : ByteArray)
    (hnews : ∀ j u, [Value.string s][j]? = some u → w.cell? (ad.add j) = some u) (hl : l.length ≤ 5000) (hB : B ≤ w.heap.size) :
    ∃ g cap w', (Builtin.append_ #[41, 41] ty #[v, .slice (some ad) 1 c]).run Tryz.prog w = .ok (.slice (some ⟨g, 0, none⟩) (l.length + 1) cap) w' ∧
      w'.ownsRow B 9 1 (.slice (some ⟨g, 0, none⟩) (l.length + 1) cap) (l.length + 1) ((l ++ [s]).map Value.string) ∧ w.grownBy w' v.ownBlock ∧ (v.ownBlock = some g ∨ (g = w.heap.size ∧ w.grownBy w' none)) := by
  obtain ⟨i0, hi, hz0, hz1, hz2⟩ := info_parts infoS
  have h1c : ∀ u ∈ [Value.string s], u.oneCell' = true := by simp [Value.oneCell']
  obtain ⟨v', w', hr, h2, h3, _, h5⟩ := run_append_own_at (P := Tryz.prog) w B 41 ty 9 i0 (.string ⟨#[]⟩) 1 16 Tryz.underlying41 hi hz0 hz1 hz2 rfl (by decide) v l.length (l.map Value.string) hown ad 1 c [.string s] rfl hnews h1c (by unfold maxLen; omega) (by omega) hB
  have h2' : w'.ownsRow B 9 1 v' (l.length + 1) ((l ++ [s]).map Value.string) := by simpa using h2
  rcases h2.2 with ⟨_, h0⟩ | ⟨g, cap, cur, rfl, _⟩
  · omega
  refine ⟨g, cap, w', hr, h2', h3, ?_⟩
  rcases h5 with h5 | h5
  · exact Or.inl h5.symm
  · have hg : g = w.heap.size := by simpa [Value.ownBlock] using h5
    rcases hown.2 with ⟨rfl, _⟩ | ⟨g0, cap0, cur0, rfl, _, hg0, _, _, hcs, _⟩
    · exact Or.inr ⟨hg, h3⟩
    · by_cases hroom : l.length + 1 ≤ cap0
      · have hr2 := run_append_room (P := Tryz.prog) w 41 ty 9 i0 Tryz.underlying41 hi g0 l.length cap0 cur0 hg0 ad 1 c [.string s] (by rw [hz1]; rfl) hnews h1c hroom (by rw [hz1]; simp; omega)
        rw [hr] at hr2
        injection hr2 with e1 e2
        have e3 : g = g0 := by
          have e4 : g = g0 ∧ cap = cap0 := by simpa using e1
          exact e4.1
        exact Or.inl (by simp [Value.ownBlock, e3])
      · have holds : ∀ j u, (l.map Value.string)[j]? = some u → w.cell? ((⟨g0, 0, none⟩ : Addr).add j) = some u := hown.cells (g := g0) rfl
        have hr2 := run_append_grow (P := Tryz.prog) w 41 ty 9 i0 (.string ⟨#[]⟩) Tryz.underlying41 hi hz0 ⟨g0, 0, none⟩ l.length cap0 (l.map Value.string) (by rw [hz1]; exact hown.1) holds ad 1 c [.string s] (by rw [hz1]; rfl) hnews (by omega) (by omega) (growslice_fits (by omega) (by rw [hz2]; omega))
        rw [hr] at hr2
        injection hr2 with e1 e2
        refine Or.inr ⟨hg, ?_⟩
        rw [e2]
        exact ⟨rfl, rfl, rfl, by simp, fun k hk _ => heap_alloc_old w.drew _ hk⟩
theorem n_wpList_append_still {w : World} {ops : Array Oper} {rest : List Oper} {o : Oper} {a : Act} {Q : Exit → Act → World → Prop} (hgd : o.guard = none) (x y : Operand)
    (ho : o.op = .call { callee := .builtin .append, args := #[x, y], argTypes := #[41, 41] }) {B : Nat} {v : Value} {l : List ByteArray} (hx : a.eval x = v) (hown : w.ownsRow B 9 1 v l.length (l.map Value.string)) (ad : Addr) (c : Nat) (s : ByteArray)
    (hy : a.eval y = .slice (some ad) 1 c) (hnews : ∀ j u, [Value.string s][j]? = some u → w.cell? (ad.add j) = some u) (hl : l.length ≤ 5000) (hB : B ≤ w.heap.size)
    (h : ∀ g cap w', w'.ownsRow B 9 1 (.slice (some ⟨g, 0, none⟩) (l.length + 1) cap) (l.length + 1) ((l ++ [s]).map Value.string) → w.grownBy w' v.ownBlock → (v.ownBlock = some g ∨ (g = w.heap.size ∧ w.grownBy w' none)) →
      wpList Tryz.prog ops Q rest (a.put o.dst (.slice (some ⟨g, 0, none⟩) (l.length + 1) cap)) w') : wpList Tryz.prog ops Q (o :: rest) a w := by
  refine wpList_plain hgd fun K hK => ?_
  obtain ⟨g, cap, w', hr, h2, h3, h4⟩ := n_run_append_still o.type hown ad c s hnews hl hB
  unfold Oper.wp execOp
  simp only [ho, resolve, invoke, builtin, Sem.run_bind, Sem.run_pure, Result.andThen_ok, List.map_toArray, List.map_cons, List.map_nil, hx, hy, hr]
  exact hK _ _ (h g cap w' h2 h3 h4)
theorem still_block {w w1 w2 : World} {p q B : Nat} {v : Value} {l : List ByteArray} {o : Obj} (h : Tb w B p v q l) (hb : Below w.heap.size w w1) (hg : (w1.alloc o).grownBy w2 v.ownBlock) : w2.heap[p]? = some (.cells #[v, .map (some q)] 129 (0, 0)) := by
  have h1 := (h.below hb).alloc o
  rw [hg.block p h1.lt (fun e => (h1.row e.symm).2.2.1 rfl)]
  exact h1.blk
theorem set_block {w : World} {p q : Nat} {v : Value} (v' : Value) (h : w.heap[p]? = some (.cells #[v, .map (some q)] 129 (0, 0))) : (w.setCell ⟨p, 0, none⟩ v').heap[p]? = some (.cells #[v', .map (some q)] 129 (0, 0)) := by
  obtain ⟨hlt, hk⟩ := Array.getElem?_eq_some_iff.1 h
  show (w.heap.modify p _)[p]? = _
  rw [Array.getElem?_eq_getElem (by rw [Array.size_modify]; exact hlt), Array.getElem_modify_self, hk]
  rfl
theorem blk_c0 {w : World} {p q : Nat} {v : Value} (h : w.heap[p]? = some (.cells #[v, .map (some q)] 129 (0, 0))) : w.cell? ⟨p, 0, none⟩ = some v := by simp [World.cell?, h]
theorem blk_c1 {w : World} {p q : Nat} {v : Value} (h : w.heap[p]? = some (.cells #[v, .map (some q)] 129 (0, 0))) : w.cell? ⟨p, 1, none⟩ = some (.map (some q)) := by simp [World.cell?, h]
theorem blk_f0 {w : World} {p q : Nat} {v : Value} (h : w.heap[p]? = some (.cells #[v, .map (some q)] 129 (0, 0))) : w.frozen? ⟨p, 0, none⟩ = false := by simp [World.frozen?, h]
theorem still_map {w w1 w2 : World} {p q B n : Nat} {v : Value} {l : List ByteArray} {o : Obj} {D : DataW Unit} (h : Tb w B p v q l) (hb : Below w.heap.size w w1) (hg : (w1.alloc o).grownBy w2 v.ownBlock) (v' : Value) (hD : w.ownsMap Tryz.prog 9 (plainElem Tryz.prog 3) q n D) :
    (w2.setCell ⟨p, 0, none⟩ v').ownsMap Tryz.prog 9 (plainElem Tryz.prog 3) q n D := by
  have h1 := (h.below hb).alloc o
  have hD1 := (map_keep (ks := []) hD (n_Mod.ofBelow hb) (by simp)).alloc o
  exact (hD1.kept hg (fun e => (h1.row e.symm).2.2.2 rfl)).setCell (fun e => h1.pq e.symm) _
theorem put_upd {w w1 w2 w3 : World} {p q B g cap : Nat} {v : Value} {l : List ByteArray} {o : Obj} {s : ByteArray} {D : DataW Unit} (h : Tb w B p v q l) (hb : Below w.heap.size w w1) (hg : (w1.alloc o).grownBy w2 v.ownBlock)
    (hown : w2.ownsRow B 9 1 (.slice (some ⟨g, 0, none⟩) (l.length + 1) cap) (l.length + 1) ((l ++ [s]).map Value.string))
    (hat : v.ownBlock = some g ∨ (g = (w1.alloc o).heap.size ∧ (w1.alloc o).grownBy w2 none)) (hs : n_goodS s = true) (hn : inL l s = false) (hl : l.length < 1024) (hO : MapOf l D) (hD : w.ownsMap Tryz.prog 9 (plainElem Tryz.prog 3) q l.length D)
    (hm : w3.ownsMap Tryz.prog 9 (plainElem Tryz.prog 3) q (l.length + 1) (D.put (.string s.data.toList) (.lit (.int .i64 (l.length : Int))))) (hg3 : (w2.setCell ⟨p, 0, none⟩ (.slice (some ⟨g, 0, none⟩) (l.length + 1) cap)).grownBy w3 (some q)) :
    n_Upd w w3 B p v q (l ++ [s]) (.slice (some ⟨g, 0, none⟩) (l.length + 1) cap) ∧ Rs w3 v l := by
  have h1 := (h.below hb).alloc o
  have hM1 : n_Mod (n_foot p v q) w (w1.alloc o) := (n_Mod.ofBelow hb).alloc o
  have hM2 : n_Mod (n_foot p v q) w w2 := hM1.grown hg (fun k e => Or.inl (n_mem_foot.2 (Or.inr (Or.inr e))))
  have hM3 : n_Mod (n_foot p v q) w (w2.setCell ⟨p, 0, none⟩ (.slice (some ⟨g, 0, none⟩) (l.length + 1) cap)) := hM2.setCell (Or.inl (n_mem_foot.2 (Or.inl rfl))) _
  have hM4 : n_Mod (n_foot p v q) w w3 := hM3.grown hg3 (fun k e => by cases e; exact Or.inl (n_mem_foot.2 (Or.inr (Or.inl rfl))))
  have hb2 := still_block h hb hg
  have hb3 := set_block (.slice (some ⟨g, 0, none⟩) (l.length + 1) cap) hb2
  have hpq := h.pq
  have hgp : g ≠ p ∧ g ≠ q := by
    rcases hat with e | ⟨e, _⟩
    · exact ⟨(h1.row e).2.2.1, (h1.row e).2.2.2⟩
    · have h3 := h1.lt
      have h4 := h1.mlt
      exact ⟨by omega, by omega⟩
  have hrow3 := (own_keep (ks := [p]) hown ((n_Mod.refl [p] w2).setCell (p := ⟨p, 0, none⟩) (Or.inl (by simp)) (.slice (some ⟨g, 0, none⟩) (l.length + 1) cap)) (fun k hk e => by
    simp at hk
    subst hk
    exact hgp.1 (by simpa [Value.ownBlock] using e)))
  have hrow4 := own_keep (ks := [q]) hrow3 ((n_Mod.refl [q] _).grown hg3 (fun k e => by cases e; exact Or.inl (by simp))) (fun k hk e => by
    simp at hk
    subst hk
    exact hgp.2 (by simpa [Value.ownBlock] using e))
  refine ⟨⟨⟨?_, h.base, by rw [List.length_append]; exact hrow4, h.mbase, ⟨_, hm.mono (by simp), mapOf_put hO hD.isMap hn⟩, by simp; omega, fun x hx => ?_, ?_⟩, hM4, fun k hk => ?_⟩, ?_⟩
  · rw [hg3.block p (lt_of_block hb3) (fun e => hpq (by simpa using e))]
    exact hb3
  · rcases List.mem_append.1 hx with hx | hx
    · exact h.good x hx
    · simp at hx
      subst hx
      exact hs
  · rw [List.nodup_append]
    refine ⟨h.nodup, by simp, fun x hx y hy e => ?_⟩
    simp at hy
    subst hy
    subst e
    rw [inL_iff.2 hx] at hn
    cases hn
  · have hk' : k = g := by simpa [Value.ownBlock] using hk.symm
    subst hk'
    rcases hat with e | ⟨e, _⟩
    · exact Or.inl e
    · have := hb.size
      simp at e
      exact Or.inr (by omega)
  · rcases hat with e | ⟨_, hg'⟩
    · rcases h.own.2 with ⟨rfl, hn0⟩ | ⟨g0, cap0, cur0, rfl, _⟩
      · exact Or.inl ⟨rfl, List.eq_nil_of_length_eq_zero hn0⟩
      · have e' : g0 = g := by simpa [Value.ownBlock] using e
        subst e'
        refine Or.inr (Or.inr ⟨g0, 0, cap0, rfl, fun j hj => ?_⟩)
        rw [Nat.zero_add, hrow4.cellAt j (by omega), List.map_append, List.getElem?_append_left (by simpa using hj)]
        simp [List.getD, hj]
    · have hr1 := h1.rs
      have hr2 : Rs w2 v l := hr1.keep (ks := []) ((n_Mod.refl [] _).grown hg' (fun k e => by cases e)) (by simp)
      have hin : ∀ k, Value.n_inBlock v = some k → v.ownBlock = some k := fun k e => by
        rcases h.own.2 with ⟨rfl, hn0⟩ | ⟨g0, cap0, cur0, rfl, _⟩
        · simp [Value.n_inBlock] at e
        · simpa [Value.n_inBlock, Value.ownBlock] using e
      have hr3 : Rs (w2.setCell ⟨p, 0, none⟩ (.slice (some ⟨g, 0, none⟩) (l.length + 1) cap)) v l := hr2.keep (ks := [p]) ((n_Mod.refl [p] w2).setCell (p := ⟨p, 0, none⟩) (Or.inl (by simp)) _) (fun k hk e => by
        simp at hk
        subst hk
        exact (h.row (hin _ e)).2.2.1 rfl)
      exact hr3.keep (ks := [q]) ((n_Mod.refl [q] _).grown hg3 (fun k e => by cases e; exact Or.inl (by simp))) (fun k hk e => by
        simp at hk
        subst hk
        exact (h.row (hin _ e)).2.2.2 rfl)
set_option maxHeartbeats 1000000 in
theorem put_full {w : World} {B p q : Nat} {v : Value} {l : List ByteArray} (h : Tb w B p v q l) (s : ByteArray) (hs : s.size ≤ 281474976710656) (hg : n_goodS s = true) (hi : inL l s = false) (hl : ¬ l.length < 1024) :
    Calls Tryz.prog 79 #[.pointer (some ⟨p, 0, none⟩), .string s] w fun e w' => e = .returned (.tuple #[.int .i64 0, .iface 102 (.pointer (some ⟨w.heap.size, 0, none⟩))]) ∧ w' = w.alloc (n_faultObj 31 (-1) s) := by
  have hf := find_any h s hs
  have hn := len_any h
  have hl2 := h.len
  rw [hi] at hf
  clear h
  go_enter Tryz.func79, Tryz.ntmps79
  go_wp2_with (first | (go_at_call 107; refine (n_good_any _ _ hs).mono ?_; rintro e w ⟨rfl, rfl⟩) | (go_at_call 77; refine hf.mono ?_; rintro e w ⟨rfl, rfl⟩) | (go_at_call 108; refine hn.mono ?_; rintro e w ⟨rfl, rfl⟩) | (go_at_call 106; refine (n_fault_any _ _ _).mono ?_; rintro e w' ⟨rfl, rfl⟩))
  go_ret2
  exact ⟨rfl, rfl⟩
set_option maxHeartbeats 2000000 in
theorem put_new {w : World} {B p q : Nat} {v : Value} {l : List ByteArray} (h : Tb w B p v q l) (hB : B ≤ w.heap.size) (s : ByteArray) (hs : s.size ≤ 281474976710656) (hg : n_goodS s = true) (hi : inL l s = false) (hl : l.length < 1024) :
    Calls Tryz.prog 79 #[.pointer (some ⟨p, 0, none⟩), .string s] w fun e w' => e = .returned (.tuple #[.int .i64 (l.length : Int), .nilIface]) ∧ ∃ v', n_Upd w w' B p v q (l ++ [s]) v' ∧ Rs w' v l := by
  have hf := find_any h s hs
  have hn := len_any h
  rw [hi] at hf
  obtain ⟨D, hD, hO⟩ := h.map
  have hk := WideMaps.keyOf_string_mk (P := Tryz.prog) (k := 9) Tryz.underlying9 (s := s) (by unfold maxLen; omega)
  have hwf : (Lit.int .i64 (l.length : Int)).wf = true := WalkArith.wf_i64 (by omega)
  go_enter Tryz.func79, Tryz.ntmps79
  go_wp2_with (first
    | (go_at_call 107; refine (n_good_any _ _ hs).mono ?_; rintro e w ⟨rfl, rfl⟩)
    | (go_at_call 77; refine hf.mono ?_; rintro e w ⟨rfl, rfl⟩)
    | (go_at_call 108; refine hn.mono ?_; rintro e w ⟨rfl, rfl⟩)
    | (go_at_call 36; refine (n_clone_any _ _ hs).mono ?_; rintro e w1 ⟨rfl, hb⟩; have c0 := (h.below hb).c0)
    | (at_builtin; refine n_wpList_append_still rfl _ _ rfl rfl ((h.below hb).alloc _).own ⟨w1.heap.size, 0, none⟩ 1 s rfl (cell_one_new _ _ _) (by omega) (by have := hb.size; simp; omega) ?_; intro g cap w2 hown hgr hat; have hb2 := still_block h hb hgr; have d0 := blk_c0 hb2; have d1 := blk_f0 hb2; have d2 := blk_c1 (set_block (.slice (some ⟨g, 0, none⟩) (l.length + 1) cap) hb2); have hm2 := still_map h hb hgr (.slice (some ⟨g, 0, none⟩) (l.length + 1) cap) hD)
    | (at_mapUpdate; refine wpList_mapUpdate_own _ rfl _ _ _ 127 rfl 9 3 (string_keyed Tryz.underlying9) Tryz.underlying127 _ q l.length _ rfl hm2 (by unfold maxLen; omega) _ _ _ rfl rfl hk _ [] (plainElem_int Tryz.underlying3 hwf) ?_; intro w3 hm3 hg3))
  go_ret2
  exact ⟨rfl, _, put_upd h hb hgr hown hat hg hi hl hO hD hm3 hg3⟩
end Go.Proofs.YtgmldkojldlekaaGreatDoor

namespace Go.Proofs.YtgmldkojldlekaaGreatDoor
set_option maxRecDepth 100000
open Go.RowKit
set_option maxHeartbeats 1000000 in
theorem head_yes (n : Int) (w : World) (h0 : 0 ≤ n) (h1 : n ≤ 18446744073709551615) (h : goodB n = true) (ht : n % 8 = 4) :
    Calls Tryz.prog 85 #[.int .u64 n] w fun e w' => e = .returned (.tuple #[.int .i64 (valOf n / 16), .int .i64 (valOf n % 16), .bool true]) ∧ w' = w := by
  have hv := fun_val n h ht
  go_enter Tryz.func85, Tryz.ntmps85
  go_wp2_with (first | (go_at_call 55; refine (tag_any _ _ h0 h1).mono ?_; rintro e w' ⟨rfl, rfl⟩) | (go_at_call 56; refine (value_any _ _).mono ?_; rintro e w' ⟨rfl, rfl⟩) | (go_at_call 112; refine (w_good_any _ _ h0 h1).mono ?_; rintro e w' ⟨rfl, rfl⟩) | (go_at_call 113; refine (w_split_any _ _ (by omega) (by omega)).mono ?_; rintro e w' ⟨rfl, rfl⟩))
  go_ret3
  exact ⟨rfl, rfl⟩
set_option maxHeartbeats 1000000 in
theorem head_no (n : Int) (w : World) (h0 : 0 ≤ n) (h1 : n ≤ 18446744073709551615) (h : goodB n = false ∨ n % 8 ≠ 4) :
    Calls Tryz.prog 85 #[.int .u64 n] w fun e w' => e = .returned (.tuple #[.int .i64 0, .int .i64 0, .bool false]) ∧ w' = w := by
  by_cases hg : goodB n = true
  · have ht : (n % 8 != 4) = true := by rw [hg] at h; simpa using h
    clear h
    go_enter Tryz.func85, Tryz.ntmps85
    go_wp2_with (first | (go_at_call 55; refine (tag_any _ _ h0 h1).mono ?_; rintro e w' ⟨rfl, rfl⟩) | (go_at_call 112; refine (w_good_any _ _ h0 h1).mono ?_; rintro e w' ⟨rfl, rfl⟩))
    go_ret3
    exact ⟨rfl, rfl⟩
  · have hg : goodB n = false := by simpa using hg
    clear h
    go_enter Tryz.func85, Tryz.ntmps85
    go_wp2_with (first | (go_at_call 55; refine (tag_any _ _ h0 h1).mono ?_; rintro e w' ⟨rfl, rfl⟩) | (go_at_call 112; refine (w_good_any _ _ h0 h1).mono ?_; rintro e w' ⟨rfl, rfl⟩))
    go_ret3
    exact ⟨rfl, rfl⟩
end Go.Proofs.YtgmldkojldlekaaGreatDoor
