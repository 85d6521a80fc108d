/- Classes numbered as their least nodes come: as plain mathematics. -/
import Derived.Test.YtllafbghomohhaaBiM
import Derived.Test.YtllafbghomohhaaBiPart
import Derived.Test.YtllafbghomohhaaOAZ
import Derived.Test.YtllafbghomohhaaBiFn
import Derived.Test.YtllafbghomohhaaBiUsr
import Derived.Test.YtllafbghomohhaaGrTrim
namespace Go.Proofs.Ytllafbghomohhaa
open Go.RowKit

/-- The place of the first that is so, or the length. -/
def fnd (p : Nat → Bool) : List Nat → Nat
  | [] => 0
  | x :: r => if p x then 0 else fnd p r + 1
theorem fnd_le (p : Nat → Bool) : ∀ l, fnd p l ≤ l.length
  | [] => Nat.le_refl _
  | x :: r => by
    have := fnd_le p r
    unfold fnd
    split
    · exact Nat.zero_le _
    · simp only [List.length_cons]
      omega
theorem fnd_hit {p : Nat → Bool} : ∀ {l : List Nat}, fnd p l < l.length → p (l.getD (fnd p l) 0) = true
  | [], h => absurd h (Nat.not_lt_zero _)
  | x :: r, h => by
    unfold fnd at h ⊢
    by_cases e : p x = true
    · rw [if_pos e]
      simpa using e
    · rw [if_neg e] at h ⊢
      have := fnd_hit (p := p) (l := r) (by simpa using h)
      simpa using this
theorem fnd_miss {p : Nat → Bool} : ∀ {l : List Nat}, (∀ x ∈ l, p x = false) → fnd p l = l.length
  | [], _ => rfl
  | x :: r, h => by
    have h1 := h x (by simp)
    unfold fnd
    rw [if_neg (by simp [h1]), fnd_miss (fun y hy => h y (by simp [hy]))]
    rfl
theorem fnd_none {p : Nat → Bool} : ∀ {l : List Nat}, fnd p l = l.length → ∀ x ∈ l, p x = false
  | [], _ => by simp
  | x :: r, h => by
    unfold fnd at h
    by_cases e : p x = true
    · rw [if_pos e] at h
      simp at h
    · rw [if_neg e] at h
      intro y hy
      rcases List.mem_cons.1 hy with h1 | h1
      · rw [h1]
        simpa using e
      · exact fnd_none (by simpa using h) y h1
theorem fnd_at {p : Nat → Bool} : ∀ {l : List Nat} {c : Nat}, c < l.length → p (l.getD c 0) = true → (∀ d, d < c → p (l.getD d 0) = false) → fnd p l = c
  | [], _, h, _, _ => absurd h (Nat.not_lt_zero _)
  | x :: r, 0, _, h, _ => by
    unfold fnd
    rw [if_pos (by simpa using h)]
  | x :: r, c + 1, hc, h, hd => by
    have h0 := hd 0 (by omega)
    unfold fnd
    rw [if_neg (by simpa using h0), fnd_at (l := r) (c := c) (by simpa using hc) (by simpa using h) (fun d h1 => by simpa using hd (d + 1) (by omega))]
theorem fnd_congr {p q : Nat → Bool} : ∀ {l : List Nat}, (∀ x ∈ l, p x = q x) → fnd p l = fnd q l
  | [], _ => rfl
  | x :: r, h => by
    unfold fnd
    rw [h x (by simp), fnd_congr (fun y hy => h y (by simp [hy]))]
/-- The first m nodes: each one's class, the least node of each class. -/
def numF (e : Nat → Nat → Bool) : Nat → List Nat × List Nat
  | 0 => ([], [])
  | m + 1 => ((numF e m).1 ++ [fnd (e m) (numF e m).2], if fnd (e m) (numF e m).2 = (numF e m).2.length then (numF e m).2 ++ [m] else (numF e m).2)
/-- The classes and the least nodes. -/
abbrev csF (e : Nat → Nat → Bool) (m : Nat) : List Nat := (numF e m).1
abbrev lsF (e : Nat → Nat → Bool) (m : Nat) : List Nat := (numF e m).2
theorem csF_succ (e : Nat → Nat → Bool) (m : Nat) : csF e (m + 1) = csF e m ++ [fnd (e m) (lsF e m)] := rfl
theorem lsF_succ (e : Nat → Nat → Bool) (m : Nat) : lsF e (m + 1) = if fnd (e m) (lsF e m) = (lsF e m).length then lsF e m ++ [m] else lsF e m := rfl
theorem csF_len (e : Nat → Nat → Bool) : ∀ m, (csF e m).length = m
  | 0 => rfl
  | m + 1 => by rw [csF_succ, List.length_append, csF_len e m]; rfl
theorem lsF_lt (e : Nat → Nat → Bool) : ∀ m, ∀ l ∈ lsF e m, l < m
  | 0 => by simp [lsF, numF]
  | m + 1 => by
    intro l hl
    rw [lsF_succ] at hl
    split at hl
    · rcases List.mem_append.1 hl with h | h
      · have := lsF_lt e m l h
        omega
      · have : l = m := by simpa using h
        omega
    · have := lsF_lt e m l hl
      omega
theorem lsF_le (e : Nat → Nat → Bool) : ∀ m, (lsF e m).length ≤ m
  | 0 => Nat.le_refl _
  | m + 1 => by
    have := lsF_le e m
    rw [lsF_succ]
    split
    · rw [List.length_append, List.length_singleton]
      omega
    · omega
theorem numF_congr {e e' : Nat → Nat → Bool} : ∀ m, (∀ x y, x < m → y < m → e x y = e' x y) → numF e m = numF e' m
  | 0, _ => rfl
  | m + 1, h => by
    have h1 := numF_congr (e := e) (e' := e') m (fun x y hx hy => h x y (by omega) (by omega))
    have h2 : fnd (e m) (lsF e m) = fnd (e' m) (lsF e m) := fnd_congr (fun x hx => h m x (by omega) (by have := lsF_lt e m x hx; omega))
    have h3 : lsF e m = lsF e' m := by unfold lsF; rw [h1]
    unfold numF
    show ((numF e m).1 ++ [fnd (e m) (lsF e m)], if fnd (e m) (lsF e m) = (lsF e m).length then lsF e m ++ [m] else lsF e m) = _
    rw [h2, h3, h1]
theorem csF_take (e : Nat → Nat → Bool) (m : Nat) : ∀ d, (csF e (m + d)).take m = csF e m
  | 0 => by rw [Nat.add_zero, List.take_of_length_le (by rw [csF_len]; exact Nat.le_refl _)]
  | d + 1 => by
    have h : m ≤ (csF e (m + d)).length := by rw [csF_len]; omega
    show (csF e (m + d + 1)).take m = _
    rw [csF_succ, List.take_append_of_le_length h]
    exact csF_take e m d
theorem csF_at (e : Nat → Nat → Bool) {n m : Nat} (h : n < m) : (csF e m).getD n 0 = fnd (e n) (lsF e n) := by
  obtain ⟨d, rfl⟩ : ∃ d, m = n + 1 + d := ⟨m - (n + 1), by omega⟩
  have h1 := csF_take e (n + 1) d
  have h2 : (csF e (n + 1 + d)).getD n 0 = ((csF e (n + 1 + d)).take (n + 1)).getD n 0 := by simp [List.getD]
  rw [h2, h1, csF_succ]
  have h3 := csF_len e n
  simp [List.getD, h3]
theorem lsF_prefix (e : Nat → Nat → Bool) (m : Nat) : ∀ d, lsF e m <+: lsF e (m + d)
  | 0 => List.prefix_refl _
  | d + 1 => (lsF_prefix e m d).trans (by
    show _ <+: lsF e (m + d + 1)
    rw [lsF_succ]
    split
    · exact List.prefix_append _ _
    · exact List.prefix_refl _)
/-- An equivalence, told by yes and no, of the numbers below N. -/
structure Eqv (e : Nat → Nat → Bool) (N : Nat) : Prop where
  refl : ∀ x, x < N → e x x = true
  symm : ∀ x y, x < N → y < N → e x y = true → e y x = true
  trans : ∀ x y z, x < N → y < N → z < N → e x y = true → e y z = true → e x z = true
/-- What the numbering says. -/
structure Nmd (e : Nat → Nat → Bool) (m : Nat) : Prop where
  hit : ∀ n, n < m → (csF e m).getD n 0 < (lsF e m).length ∧ e n ((lsF e m).getD ((csF e m).getD n 0) 0) = true
  apart : ∀ c d, c < (lsF e m).length → d < (lsF e m).length → e ((lsF e m).getD c 0) ((lsF e m).getD d 0) = true → c = d
  own : ∀ c, c < (lsF e m).length → (csF e m).getD ((lsF e m).getD c 0) 0 = c
theorem numF_said {e : Nat → Nat → Bool} {N : Nat} (he : Eqv e N) : ∀ m, m ≤ N → Nmd e m
  | 0, _ => ⟨fun _ h => absurd h (Nat.not_lt_zero _), fun _ _ h => absurd h (Nat.not_lt_zero _), fun _ h => absurd h (Nat.not_lt_zero _)⟩
  | m + 1, hm => by
    have ih := numF_said he m (by omega)
    have hl := lsF_lt e m
    have hcl := csF_len e m
    have co : ∀ n, n < m → (csF e (m + 1)).getD n 0 = (csF e m).getD n 0 := fun n hn => by
      rw [csF_succ]
      have : n < (csF e m).length := by omega
      simp [List.getD, List.getElem?_append_left this]
    have cn : (csF e (m + 1)).getD m 0 = fnd (e m) (lsF e m) := csF_at e (Nat.lt_succ_self m)
    by_cases h : fnd (e m) (lsF e m) = (lsF e m).length
    · have hls : lsF e (m + 1) = lsF e m ++ [m] := by rw [lsF_succ, if_pos h]
      have lo : ∀ c, c < (lsF e m).length → (lsF e (m + 1)).getD c 0 = (lsF e m).getD c 0 := fun c hc => by
        rw [hls]
        simp [List.getD, List.getElem?_append_left hc]
      have ln : (lsF e (m + 1)).getD (lsF e m).length 0 = m := by
        rw [hls]
        simp [List.getD]
      have hlen : (lsF e (m + 1)).length = (lsF e m).length + 1 := by rw [hls, List.length_append, List.length_singleton]
      have hno := fnd_none h
      refine ⟨fun n hn => ?_, fun c d hc hd hcd => ?_, fun c hc => ?_⟩
      · by_cases en : n = m
        · subst en
          rw [cn, h, hlen, ln]
          exact ⟨by omega, he.refl n (by omega)⟩
        · have hn' : n < m := by omega
          have := ih.hit n hn'
          rw [co n hn', hlen, lo _ this.1]
          exact ⟨by omega, this.2⟩
      · rw [hlen] at hc hd
        by_cases ec : c = (lsF e m).length
        · by_cases ed : d = (lsF e m).length
          · omega
          · exfalso
            have hd' : d < (lsF e m).length := by omega
            rw [ec, ln, lo d hd'] at hcd
            rw [hno _ (nget_mem hd')] at hcd
            cases hcd
        · have hc' : c < (lsF e m).length := by omega
          rw [lo c hc'] at hcd
          by_cases ed : d = (lsF e m).length
          · exfalso
            rw [ed, ln] at hcd
            have h1 := hl _ (nget_mem hc')
            have h2 := he.symm _ _ (by omega) (by omega) hcd
            rw [hno _ (nget_mem hc')] at h2
            cases h2
          · have hd' : d < (lsF e m).length := by omega
            rw [lo d hd'] at hcd
            exact ih.apart c d hc' hd' hcd
      · rw [hlen] at hc
        by_cases ec : c = (lsF e m).length
        · rw [ec, ln, cn, h]
        · have hc' : c < (lsF e m).length := by omega
          rw [lo c hc', co _ (hl _ (nget_mem hc'))]
          exact ih.own c hc'
    · have hls : lsF e (m + 1) = lsF e m := by rw [lsF_succ, if_neg h]
      have hlt : fnd (e m) (lsF e m) < (lsF e m).length := by
        have := fnd_le (e m) (lsF e m)
        omega
      refine ⟨fun n hn => ?_, fun c d hc hd hcd => ?_, fun c hc => ?_⟩
      · rw [hls]
        by_cases en : n = m
        · subst en
          rw [cn]
          exact ⟨hlt, fnd_hit hlt⟩
        · rw [co n (by omega)]
          exact ih.hit n (by omega)
      · rw [hls] at hc hd hcd
        exact ih.apart c d hc hd hcd
      · rw [hls] at hc ⊢
        rw [co _ (hl _ (nget_mem hc))]
        exact ih.own c hc
theorem Nmd.same {e : Nat → Nat → Bool} {N : Nat} (he : Eqv e N) (h : Nmd e N) {x y : Nat} (hx : x < N) (hy : y < N) : (csF e N).getD x 0 = (csF e N).getD y 0 ↔ e x y = true := by
  have h1 := h.hit x hx
  have h2 := h.hit y hy
  have l1 := lsF_lt e N _ (nget_mem h1.1)
  have l2 := lsF_lt e N _ (nget_mem h2.1)
  constructor
  · intro ec
    rw [← ec] at h2 l2
    exact he.trans _ _ _ hx l1 hy h1.2 (he.symm _ _ hy l2 h2.2)
  · intro exy
    refine h.apart _ _ h1.1 h2.1 ?_
    exact he.trans _ _ _ l1 hx l2 (he.symm _ _ hx l1 h1.2) (he.trans _ _ _ hx hy l2 exy h2.2)
end Go.Proofs.Ytllafbghomohhaa

/- alike of package bisim: the class of each node and the least node of each class. -/
namespace Go.Proofs.Ytllafbghomohhaa
open Go.RowKit

/-- Classes told by their numbers. -/
def eqC (cl : Nat → Nat) (x y : Nat) : Bool := decide (cl x = cl y)
/-- The numbers of classes so far, from 1 on. -/
def numK (cl : Nat → Nat) (ls : List Nat) (c : Nat) : Nat := if fnd (fun l => decide (c = cl l)) ls < ls.length then fnd (fun l => decide (c = cl l)) ls + 1 else 0
theorem fnd_snoc {p : Nat → Bool} {x : Nat} : ∀ {l : List Nat}, fnd p (l ++ [x]) = if fnd p l < l.length then fnd p l else if p x then l.length else l.length + 1
  | [] => by
    show fnd p [x] = _
    unfold fnd fnd
    by_cases e : p x = true
    · simp [e]
    · simp [e]
  | y :: r => by
    have ih := fnd_snoc (p := p) (x := x) (l := r)
    show fnd p (y :: (r ++ [x])) = _
    unfold fnd
    by_cases e : p y = true
    · simp [e]
    · rw [if_neg e, if_neg e, ih]
      simp only [List.length_cons]
      by_cases h : fnd p r < r.length
      · have h' : fnd p r + 1 < r.length + 1 := by omega
        rw [if_pos h, if_pos h']
      · have h' : ¬ fnd p r + 1 < r.length + 1 := by omega
        rw [if_neg h, if_neg h']
        split <;> rfl
/-- A new class: its number is entered. -/
theorem numK_new {cl : Nat → Nat} {ls : List Nat} {m : Nat} (h : fnd (eqC cl m) ls = ls.length) : numK cl (ls ++ [m]) = upd (numK cl ls) (cl m) (ls.length + 1) := by
  funext c
  unfold numK upd
  rw [fnd_snoc, List.length_append, List.length_singleton]
  by_cases e : c = cl m
  · have h1 : fnd (fun l => decide (c = cl l)) ls = ls.length := by
      rw [← h, e]
      rfl
    have h2 : ¬ fnd (fun l => decide (c = cl l)) ls < ls.length := by omega
    have h3 : decide (c = cl m) = true := by simp [e]
    have h4 : ls.length < ls.length + 1 := by omega
    rw [if_neg h2, if_pos h3, if_pos h4, if_pos e]
  · have h3 : ¬ decide (c = cl m) = true := by simp [e]
    rw [if_neg e]
    by_cases h1 : fnd (fun l => decide (c = cl l)) ls < ls.length
    · have h4 : fnd (fun l => decide (c = cl l)) ls < ls.length + 1 := by omega
      rw [if_pos h1, if_pos h4]
      exact (if_pos h1).symm
    · have h4 : ¬ ls.length + 1 < ls.length + 1 := by omega
      rw [if_neg h1, if_neg h3, if_neg h4]
      exact (if_neg h1).symm
theorem numK_at (cl : Nat → Nat) (ls : List Nat) (m : Nat) : numK cl ls (cl m) = if fnd (eqC cl m) ls < ls.length then fnd (eqC cl m) ls + 1 else 0 := rfl
theorem eqC_eqv (cl : Nat → Nat) (N : Nat) : Eqv (eqC cl) N := by
  refine ⟨fun x _ => by simp [eqC], fun x y _ _ h => ?_, fun x y z _ _ _ h1 h2 => ?_⟩
  · simp only [eqC, decide_eq_true_eq] at h ⊢
    exact h.symm
  · simp only [eqC, decide_eq_true_eq] at h1 h2 ⊢
    exact h1.trans h2
set_option maxRecDepth 100000 in
set_option maxHeartbeats 4000000 in
theorem alike_bad {W : World} {nv rv : Value} {g : Gf} (hG : Gr W nv rv g) (hS : Sized g) (hb : one (chk g) ≠ []) :
    Calls Try.prog 43 #[.agg #[nv, rv]] W fun e w' => (∃ b, e = .returned (.tuple #[.slice none 0 0, .slice none 0 0, .iface 70 (.pointer (some ⟨b, 0, none⟩))]) ∧ Er w' (.iface 70 (.pointer (some ⟨b, 0, none⟩))) (one (chk g))) ∧ Below W.heap.size W w' := by
  have hck := check_any (hG.below (below_alloc W (.cells #[nv, rv] 25))) hS
  go_enter Try.func43, Try.ntmps43
  go_wp2_with (go_at_call 35; refine hck.mono ?_; rintro e w1 ⟨⟨ev, rfl, hE⟩, hb1⟩; obtain ⟨b, rfl⟩ : ∃ b, ev = .iface 70 (.pointer (some ⟨b, 0, none⟩)) := (hE.isNil.resolve_left (fun h => hb h.1)).2)
  go_ret3
  exact ⟨⟨b, rfl, hE⟩, Below.next (below_alloc _ _) hb1⟩
/-- The two rows: classes and least nodes. -/
def rows2 (cl : Nat → Nat) (m i : Nat) : List Int := if i = 0 then ints (csF (eqC cl) m) else ints (lsF (eqC cl) m)
/-- While classes are numbered. -/
structure Lq (W wr : World) (B pb N nb : Nat) (v0 v1 v2 v3 v4 v5 : Value) (S : Ps) (m : Nat) (t2 t3 : Value) : Prop where
  b : Below W.heap.size W wr
  pt : Pt wr B pb v0 v1 v2 v3 v4 v5 (S.rows N)
  plt : ∀ k ∈ pb :: blocks [v0, v1, v2, v3, v4, v5], k < nb
  num : wr.heap[nb]? = some (.cells (rowV S.C (fun c => .int .i64 (numK S.cl (lsF (eqC S.cl) m) c : Int))) 3 (0, 0))
  fm : Fm wr (nb + 1) [t2, t3] (rows2 S.cl m)
  bW : W.heap.size ≤ nb
theorem Lq.sz {W wr : World} {B pb N nb m : Nat} {v0 v1 v2 v3 v4 v5 t2 t3 : Value} {S : Ps} (h : Lq W wr B pb N nb v0 v1 v2 v3 v4 v5 S m t2 t3) : nb + 1 ≤ wr.heap.size := lt_of_block h.num
theorem two {P : Nat → Prop} (h0 : P 0) (h1 : P 1) : ∀ i, i < 2 → P i := fun i hi => by
  have : i = 0 ∨ i = 1 := by omega
  rcases this with rfl | rfl <;> assumption
theorem Fm.congr2 {w : World} {B : Nat} {a b : Value} {f f' : Nat → List Int} (h : Fm w B [a, b] f) (e : ∀ i, i < 2 → f i = f' i) : Fm w B [a, b] f' :=
  ⟨fun i hi => by
    have hi' : i < 2 := by simpa using hi
    rw [← e i hi']
    exact h.own i hi, h.nd⟩
/-- A node of a class that has a number. -/
theorem Lq.old {W wr w5 : World} {B pb N nb m g cap : Nat} {v0 v1 v2 v3 v4 v5 t2 t3 : Value} {S : Ps} {o : Obj} (h : Lq W wr B pb N nb v0 v1 v2 v3 v4 v5 S m t2 t3) (hf : fnd (eqC S.cl m) (lsF (eqC S.cl) m) < (lsF (eqC S.cl) m).length)
    (hown : w5.ownsRow (nb + 1) 3 1 (.slice (some ⟨g, 0, none⟩) (m + 1) cap) (m + 1) ((ints (csF (eqC S.cl) m)).map (Value.int .i64) ++ [.int .i64 (fnd (eqC S.cl m) (lsF (eqC S.cl) m) : Int)])) (hgr : (wr.alloc o).grownBy w5 t2.ownBlock) (hat : t2.ownBlock = some g ∨ g = wr.heap.size + 1) :
    Lq W w5 B pb N nb v0 v1 v2 v3 v4 v5 S (m + 1) (.slice (some ⟨g, 0, none⟩) (m + 1) cap) t3 := by
  have hsz := h.sz
  have hlow : ∀ q, t2.ownBlock = some q → nb + 1 ≤ q := fun q e => ((h.fm.own 0 (by simp)).lt q e).1
  have hold : ∀ q, q ≤ nb → w5.heap[q]? = wr.heap[q]? := fun q hq => by
    rw [hgr.block q (by simp; omega) (fun e => by have := hlow q e.symm; omega), Below.heap_alloc _ _ _ (by omega)]
  have hls : lsF (eqC S.cl) (m + 1) = lsF (eqC S.cl) m := by rw [lsF_succ, if_neg (by omega)]
  have hcl : (rows2 S.cl m 0).length = m := (ints_len _).trans (csF_len _ _)
  refine ⟨(h.b.alloc h.b.size _).grown hgr (by simp; have := h.b.size; omega) (fun q e => by have := hlow q e; have := h.bW; omega), h.pt.keep (fun k hk => hold k (by have := h.plt k hk; omega)), h.plt, by rw [hold nb (Nat.le_refl _), hls]; exact h.num, ?_, h.bW⟩
  have hF := Fm.push (k := 0) (x := (fnd (eqC S.cl m) (lsF (eqC S.cl) m) : Int)) (g := g) (cap := cap) h.fm (by simp) (by rw [hcl, List.map_append]; exact hown) hgr hat
  rw [hcl] at hF
  refine hF.congr2 (two ?_ ?_)
  · show ints (csF (eqC S.cl) m) ++ [_] = ints (csF (eqC S.cl) (m + 1))
    rw [csF_succ, ints_snoc]
  · show ints (lsF (eqC S.cl) m) = ints (lsF (eqC S.cl) (m + 1))
    rw [hls]
/-- A node of a new class. -/
theorem Lq.new {W wr w3 w5 : World} {B pb N nb m g cap g' cap' : Nat} {v0 v1 v2 v3 v4 v5 t2 t3 : Value} {S : Ps} {o o' : Obj} (h : Lq W wr B pb N nb v0 v1 v2 v3 v4 v5 S m t2 t3) (hf : fnd (eqC S.cl m) (lsF (eqC S.cl) m) = (lsF (eqC S.cl) m).length)
    (hown3 : w3.ownsRow (nb + 1) 3 1 (.slice (some ⟨g', 0, none⟩) ((lsF (eqC S.cl) m).length + 1) cap') ((lsF (eqC S.cl) m).length + 1) ((ints (lsF (eqC S.cl) m)).map (Value.int .i64) ++ [.int .i64 (m : Int)])) (hgr3 : (wr.alloc o').grownBy w3 t3.ownBlock) (hat3 : t3.ownBlock = some g' ∨ g' = wr.heap.size + 1)
    (hown : w5.ownsRow (nb + 1) 3 1 (.slice (some ⟨g, 0, none⟩) (m + 1) cap) (m + 1) ((ints (csF (eqC S.cl) m)).map (Value.int .i64) ++ [.int .i64 ((lsF (eqC S.cl) m).length : Int)])) (hgr : ((w3.setCell ⟨nb, S.cl m, none⟩ (.int .i64 (((lsF (eqC S.cl) m).length : Int) + 1))).alloc o).grownBy w5 t2.ownBlock) (hat : t2.ownBlock = some g ∨ g = w3.heap.size + 1) :
    Lq W w5 B pb N nb v0 v1 v2 v3 v4 v5 S (m + 1) (.slice (some ⟨g, 0, none⟩) (m + 1) cap) (.slice (some ⟨g', 0, none⟩) ((lsF (eqC S.cl) m).length + 1) cap') := by
  have hsz := h.sz
  have hs3 := hgr3.size
  simp at hs3
  have hlow2 : ∀ q, t2.ownBlock = some q → nb + 1 ≤ q := fun q e => ((h.fm.own 0 (by simp)).lt q e).1
  have hlow3 : ∀ q, t3.ownBlock = some q → nb + 1 ≤ q := fun q e => ((h.fm.own 1 (by simp)).lt q e).1
  have hold3 : ∀ q, q ≤ nb → w3.heap[q]? = wr.heap[q]? := fun q hq => by
    rw [hgr3.block q (by simp; omega) (fun e => by have := hlow3 q e.symm; omega), Below.heap_alloc _ _ _ (by omega)]
  have hold5 : ∀ q, q ≤ nb → w5.heap[q]? = (w3.setCell ⟨nb, S.cl m, none⟩ (.int .i64 (((lsF (eqC S.cl) m).length : Int) + 1))).heap[q]? := fun q hq => by
    rw [hgr.block q (by simp; omega) (fun e => by have := hlow2 q e.symm; omega), Below.heap_alloc _ _ _ (by simp; omega)]
  have hls : lsF (eqC S.cl) (m + 1) = lsF (eqC S.cl) m ++ [m] := by rw [lsF_succ, if_pos hf]
  have hcl : (rows2 S.cl m 0).length = m := (ints_len _).trans (csF_len _ _)
  have hll : (rows2 S.cl m 1).length = (lsF (eqC S.cl) m).length := ints_len _
  have hb3 : Below W.heap.size W w3 := (h.b.alloc h.b.size _).grown hgr3 (by simp; have := h.b.size; omega) (fun q e => by have := hlow3 q e; have := h.bW; omega)
  have hb4 := hb3.setCell (p := ⟨nb, S.cl m, none⟩) h.bW (.int .i64 (((lsF (eqC S.cl) m).length : Int) + 1))
  have hb5 : Below W.heap.size W w5 := (hb4.alloc hb4.size _).grown hgr (by simp; have := hb3.size; omega) (fun q e => by have := hlow2 q e; have := h.bW; omega)
  have hF3 := Fm.push (k := 1) (x := (m : Int)) (g := g') (cap := cap') h.fm (by simp) (by rw [hll, List.map_append]; exact hown3) hgr3 hat3
  rw [hll] at hF3
  have hF4 : Fm (w3.setCell ⟨nb, S.cl m, none⟩ (.int .i64 (((lsF (eqC S.cl) m).length : Int) + 1))) (nb + 1) [t2, .slice (some ⟨g', 0, none⟩) ((lsF (eqC S.cl) m).length + 1) cap'] (upd (rows2 S.cl m) 1 (rows2 S.cl m 1 ++ [(m : Int)])) := hF3.keep (fun k hk => Below.heap_setCell _ _ _ _ (fun e => by
    have h1 := (hF3.lt k hk).1
    have e' : k = nb := e
    omega))
  have hcl' : (upd (rows2 S.cl m) 1 (rows2 S.cl m 1 ++ [(m : Int)]) 0).length = m := hcl
  have hF5 := Fm.push (k := 0) (x := ((lsF (eqC S.cl) m).length : Int)) (g := g) (cap := cap) hF4 (by simp) (by rw [hcl', List.map_append]; exact hown) hgr (by simpa using hat)
  rw [hcl'] at hF5
  refine ⟨hb5, h.pt.keep (fun k hk => ?_), h.plt, ?_, hF5.congr2 (two ?_ ?_), h.bW⟩
  · have := h.plt k hk
    rw [hold5 k (by omega), Below.heap_setCell _ _ _ _ (by show k ≠ nb; omega), hold3 k (by omega)]
  · rw [hold5 nb (Nat.le_refl _)]
    have h1 : w3.heap[nb]? = _ := (hold3 nb (Nat.le_refl _)).trans h.num
    rw [heap_setCell_same w3 nb _ _ _ _ h1, rowV_set, hls, numK_new hf]
    congr 3
    funext c
    unfold upd
    split <;> rfl
  · show ints (csF (eqC S.cl) m) ++ [_] = ints (csF (eqC S.cl) (m + 1))
    rw [csF_succ, ints_snoc, hf]
  · show ints (lsF (eqC S.cl) m) ++ [_] = ints (lsF (eqC S.cl) (m + 1))
    rw [hls, ints_snoc]
end Go.Proofs.Ytllafbghomohhaa

/- alike of package bisim, walked: at good graphs. -/
namespace Go.Proofs.Ytllafbghomohhaa
open Go.RowKit

theorem anew_row (N : Nat) : anewArr N [] = rowV N (fun _ => .int .i64 0) := by
  apply Array.ext
  · simp [anew_size, rowV]
  · intro i h1 h2
    simp [anewArr, rowV, posF]
theorem Fm.base {w : World} {B B' : Nat} {vs : List Value} {f : Nat → List Int} (h : Fm w B vs f) (hB : B' ≤ B) : Fm w B' vs f := ⟨fun i hi => own_base (h.own i hi) hB, h.nd⟩
/-- What alike answers: classes and least nodes. -/
def ansC (e : Nat → Nat → Bool) (N i : Nat) : List Int := if i = 0 then ints (csF e N) else ints (lsF e N)
theorem Lq.start {W w2 : World} {B pb N : Nat} {v0 v1 v2 v3 v4 v5 : Value} {S : Ps} (hb : Below W.heap.size W w2) (hP : Pt w2 B pb v0 v1 v2 v3 v4 v5 (S.rows N)) : Lq W (w2.alloc (.cells (anewArr S.C []) 3)) B pb N w2.heap.size v0 v1 v2 v3 v4 v5 S 0 (.slice none 0 0) (.slice none 0 0) := by
  refine ⟨hb.alloc hb.size _, hP.below (below_alloc w2 _), hP.lt, ?_, ⟨fun i hi => ?_, fun i j p q hi hj hij hp hq => ?_⟩, hb.size⟩
  · rw [heap_alloc_new, anew_row]
    rfl
  · have hi' : i < 2 := by simpa using hi
    revert hi'
    exact two (P := fun i => (w2.alloc (.cells (anewArr S.C []) 3)).ownsRow (w2.heap.size + 1) 3 1 ([Value.slice none 0 0, .slice none 0 0].getD i undef) (rows2 S.cl 0 i).length ((rows2 S.cl 0 i).map (Value.int .i64))) (World.ownsRow_nil _ _ _ _) (World.ownsRow_nil _ _ _ _) i
  · have hi' : i < 2 := by simpa using hi
    revert hp
    refine two (P := fun i => ([Value.slice none 0 0, .slice none 0 0].getD i undef).ownBlock = some p → p ≠ q) (fun h => by cases h) (fun h => by cases h) i hi'
set_option maxRecDepth 100000 in
set_option maxHeartbeats 4000000 in
theorem alike_good {W : World} {nv rv : Value} {g : Gf} (hG : Gr W nv rv g) (hS : Sized g) (hb : one (chk g) = []) (ee : Nat → Nat → Bool) (he : ∀ x y, x < g.nodes.length → y < g.nodes.length → (ee x y = true ↔ Al g (x : Int) (y : Int))) :
    Calls Try.prog 43 #[.agg #[nv, rv]] W fun r w' => (∃ t2 t3, r = .returned (.tuple #[t2, t3, .nilIface]) ∧ Fm w' W.heap.size [t2, t3] (ansC ee g.nodes.length)) ∧ Below W.heap.size W w' := by
  obtain ⟨i0, hi, hz0, hz1, hz2⟩ := info_parts infoI
  have hg := chk_good hb
  have hnl := hg.nodes
  have hck := check_any (hG.below (below_alloc W (.cells #[nv, rv] 25))) hS
  rw [hb] at hck
  have href := hid (fun w1 (h : Below W.heap.size W w1) => refined_any (hG.1.below h) hg hS)
  have hbox : Hid (∀ w1, Below (W.alloc (.cells #[nv, rv] 25)).heap.size (W.alloc (.cells #[nv, rv] 25)) w1 → w1.cell? ⟨W.heap.size, 0, none⟩ = some nv ∧ W.heap.size < w1.heap.size) := fun w1 h => by
    have h1 : w1.heap[W.heap.size]? = _ := (h.block W.heap.size (by simp)).trans (heap_alloc_new W _)
    exact ⟨by simp [World.cell?, h1], lt_of_block h1⟩
  obtain ⟨na, nc, rfl, _⟩ := hG.1
  have hHe := hid he
  clear hG hb he
  generalize hNN : g.nodes.length = N at *
  go_enter Try.func43, Try.ntmps43
  go_wp2_with (first
    | (go_at_call 35; refine hck.mono ?_; rintro e w1 ⟨⟨ev, rfl, hE⟩, hb1⟩; obtain rfl : ev = .nilIface := hE; obtain ⟨x0, x1⟩ := hbox.out w1 hb1; have hbw := Below.next (below_alloc W _) hb1; clear hck)
    | (go_at_call 64; refine (href.out w1 hbw).mono ?_; rintro e w2 ⟨⟨pb, v0, v1, v2, v3, v4, v5, S, rfl, hP, hI, hA⟩, hb2⟩; have hCN := hI.le; have hmk := make_ints S.C (by omega); have e3 : (S.rows N 3).length = S.C := rowF_len _ _; obtain ⟨a3, c3, hv3⟩ := own_sl (hP.fm.own 3 (by simp)); have hv3' : v3 = .slice a3 S.C c3 := (by rw [e3] at hv3; exact hv3); have z3 := (blk6 hP.blk).1.2.2.2.1; rw [hv3'] at z3; clear hv3 e3; have x2 := (hb2.cell (p := ⟨W.heap.size, 0, none⟩) x1).trans x0; have hs2 := hb2.size; have x3 : W.heap.size < w2.heap.size := (by omega)))
  have hst := hid (Lq.start (Below.next hbw hb2) hP)
  have hHA := hid hA
  have hHI := hid hI
  have hnp := hid (hP.lt)
  have e2 : (S.rows N 2).length = N := rowF_len _ _
  obtain ⟨a2, c2, hv2⟩ := own_sl (hP.fm.own 2 (by simp))
  have hv2' : v2 = .slice a2 N c2 := by
    rw [e2] at hv2
    exact hv2
  clear href hbox hP hI hA hv2 z3 x0 x1 x2 x3 hmk hb1 hb2 hbw e2
  go_loopw [2, 3, 27] (fun t2 t3 i wr => ∃ (m : Nat) (ca : Option Addr) (cc : Nat) (la : Option Addr) (lc : Nat), m ≤ N ∧ i = .int .i64 m ∧ t2 = .slice ca m cc ∧ t3 = .slice la (lsF (eqC S.cl) m).length lc ∧ Hid (Lq W wr w1.heap.size pb N w2.heap.size v0 v1 v2 v3 v4 v5 S m (.slice ca m cc) (.slice la (lsF (eqC S.cl) m).length lc))) (fun _ _ i _ => N - (intOf i).toNat)
  case atStart => exact ⟨0, none, 0, none, 0, Nat.zero_le _, rfl, rfl, rfl, hst⟩
  case round =>
    clear hst
    obtain ⟨m, ca, cc, la, lc, hm, rfl, rfl, rfl, hLq⟩ := hrel
    by_cases hlt : m < N
    · have hcl := hHI.out.cls m hlt
      have e2 : (S.rows N 2).length = N := rowF_len _ _
      obtain ⟨q2, c2', hq2⟩ : ∃ q c, v2 = .slice (some ⟨q, 0, none⟩) N c := by
        have h1 := hLq.out.pt.fm.own 2 (by simp)
        rw [e2] at h1
        obtain ⟨q, c', h, _⟩ := (own_form h1).resolve_left (fun h => by omega)
        exact ⟨q, c', h⟩
      have z2 := (blk6 hLq.out.pt.blk).1.2.2.1
      rw [hq2] at z2
      have k2 := (hLq.out.pt.fm.cellN (i := 2) (j := m) (by simp) hq2 e2 hlt).1
      have g2 : (S.rows N 2).getD m 0 = (S.cl m : Int) := rowF_get _ hlt
      rw [g2] at k2
      have k5 : wr.cell? ⟨w2.heap.size, S.cl m, none⟩ = some (.int .i64 (numK S.cl (lsF (eqC S.cl) m) (S.cl m) : Int)) := by
        rw [cell_of_row wr _ _ _ _ _ hLq.out.num]
        exact rowV_at _ hcl
      have k5f : wr.frozen? ⟨w2.heap.size, S.cl m, none⟩ = false := by simp [World.frozen?, hLq.out.num]
      rw [numK_at] at k5
      have hsz := hLq.out.sz
      have hfle := fnd_le (eqC S.cl m) (lsF (eqC S.cl) m)
      have hlle := lsF_le (eqC S.cl) m
      have o2 : wr.ownsRow (w2.heap.size + 1) 3 1 (.slice ca m cc) m ((ints (csF (eqC S.cl) m)).map (Value.int .i64)) := by
        have h1 := hLq.out.fm.own 0 (by simp)
        have h2 : (rows2 S.cl m 0).length = m := (ints_len _).trans (csF_len _ _)
        rw [h2] at h1
        exact h1
      have o3 : wr.ownsRow (w2.heap.size + 1) 3 1 (.slice la (lsF (eqC S.cl) m).length lc) (lsF (eqC S.cl) m).length ((ints (lsF (eqC S.cl) m)).map (Value.int .i64)) := by
        have h1 := hLq.out.fm.own 1 (by simp)
        have h2 : (rows2 S.cl m 1).length = (lsF (eqC S.cl) m).length := ints_len _
        rw [h2] at h1
        exact h1
      have hci : ((S.cl m : Nat) : Int) < (S.C : Int) := by omega
      by_cases hf : fnd (eqC S.cl m) (lsF (eqC S.cl) m) < (lsF (eqC S.cl) m).length
      · rw [if_pos hf] at k5
        have hend := hid (fun o w5 g cap => Lq.old (o := o) (w5 := w5) (g := g) (cap := cap) hLq.out hf)
        have hoz := World.ownsRow.alloc o2 (.cells #[.int .i64 ((fnd (eqC S.cl m) (lsF (eqC S.cl) m) : Nat) : Int)] 3)
        have hls : Hid (lsF (eqC S.cl) (m + 1) = lsF (eqC S.cl) m) := by
          show _ = _
          rw [lsF_succ, if_neg (by omega)]
        have hfl : fnd (eqC S.cl m) (lsF (eqC S.cl) m) ≤ 4096 := by omega
        clear hf g2 o2 o3 hfle hLq hcl
        generalize fnd (eqC S.cl m) (lsF (eqC S.cl) m) = ff at *
        have hffi : ¬ ((ff : Int) + 1 = 0) := by omega
        have k6 : wr.cell? ⟨w2.heap.size, S.cl m, none⟩ = some (.int .i64 ((ff : Int) + 1)) := by simpa using k5
        clear k5
        go_wp2_with (at_builtin; refine wpList_append_lies _ rfl _ _ _ rfl (w2.heap.size + 1) 3 i0 (.int .i64 0) 1 8 Try.underlying23 hi hz0 hz1 hz2 rfl (by decide) _ m ((ints (csF (eqC S.cl) m)).map (Value.int .i64)) rfl hoz ⟨wr.heap.size, 0, none⟩ 1 1 [.int .i64 (ff : Int)] rfl rfl (World.news_of_block (cs := #[.int .i64 (ff : Int)]) (t := 3) (fr := (0, 0)) (heap_alloc_new wr _)) (by simp [Value.oneCell']) (by omega) (by unfold maxLen; omega) (by omega) (by simp; omega) (wr.heap.size + 1) (by simp) ?_; intro gg cap w5 hown5 hgr5 hat5 hlt5)
        go_roundw
        case rel =>
          have := hend.out _ w5 gg cap hown5 hgr5 (hat5.elim Or.inl (fun h => Or.inr (by simpa using h)))
          exact ⟨m + 1, some ⟨gg, 0, none⟩, cap, la, lc, by omega, congrArg (Value.int .i64) (by omega), rfl, by rw [hls.out], by rw [hls.out]; exact this⟩
        case measure => simp [intOf]; omega
      · have hf' : fnd (eqC S.cl m) (lsF (eqC S.cl) m) = (lsF (eqC S.cl) m).length := by omega
        rw [if_neg hf] at k5
        have k6 : wr.cell? ⟨w2.heap.size, S.cl m, none⟩ = some (.int .i64 0) := by simpa using k5
        have hend := hid (fun o o' w3 w5 g cap g' cap' => Lq.new (o := o) (o' := o') (w3 := w3) (w5 := w5) (g := g) (cap := cap) (g' := g') (cap' := cap') hLq.out hf')
        have hls : Hid (lsF (eqC S.cl) (m + 1) = lsF (eqC S.cl) m ++ [m]) := by
          show _ = _
          rw [lsF_succ, if_pos hf']
        have ho3 := World.ownsRow.alloc o3 (.cells #[.int .i64 (m : Int)] 3)
        have hnum := hid hLq.out.num
        have hkeep : Hid (∀ o w3, (wr.alloc o).grownBy w3 (Value.slice la (lsF (eqC S.cl) m).length lc).ownBlock → (w3.cell? ⟨w2.heap.size, S.cl m, none⟩ = some (.int .i64 0) ∧ w3.frozen? ⟨w2.heap.size, S.cl m, none⟩ = false) ∧ (w3.setCell ⟨w2.heap.size, S.cl m, none⟩ (.int .i64 (((lsF (eqC S.cl) m).length : Int) + 1))).ownsRow (w2.heap.size + 1) 3 1 (.slice ca m cc) m ((ints (csF (eqC S.cl) m)).map (Value.int .i64)) ∧ (w3.setCell ⟨w2.heap.size, S.cl m, none⟩ (.int .i64 (((lsF (eqC S.cl) m).length : Int) + 1))).cell? ⟨w2.heap.size, S.cl m, none⟩ = some (.int .i64 (((lsF (eqC S.cl) m).length : Int) + 1)) ∧ w2.heap.size < w3.heap.size) := fun o w3 h => by
          have hs3 := h.size
          simp at hs3
          have hb : w3.heap[w2.heap.size]? = wr.heap[w2.heap.size]? := by
            rw [h.block _ (by simp; omega) (fun e => by have := (o3.lt _ e.symm).1; omega), Below.heap_alloc _ _ _ (by omega)]
          refine ⟨⟨by rw [World.cell?_of_block (a := ⟨w2.heap.size, S.cl m, none⟩) hb]; exact k6, by simpa [World.frozen?, hb] using k5f⟩, ?_, ?_, by omega⟩
          · refine own_block o2 (fun q e => ?_)
            have h1 := o2.lt q e
            rw [Below.heap_setCell _ _ _ _ (by show q ≠ w2.heap.size; omega), h.block q (by simp; omega) (fun e' => hLq.out.fm.nd 0 1 q q (by simp) (by simp) (by omega) e e'.symm rfl), Below.heap_alloc _ _ _ h1.2]
          · have h2 : w3.heap[w2.heap.size]? = _ := hb.trans hnum.out
            rw [cell_of_row _ _ _ _ _ _ (heap_setCell_same w3 w2.heap.size (S.cl m) _ _ _ h2), rowV_set]
            rw [rowV_at _ hcl, upd_same]
        have hHL := hid hLq
        clear hf hf' g2 o2 o3 hfle k5 hLq hcl
        generalize hlx : (lsF (eqC S.cl) m).length = ll at *
        have hll := hid hlx
        clear hlx
        have hl9 : ll ≤ 4096 := by omega
        have hnew3 : Hid (∀ w3 : World, ((w3.setCell ⟨w2.heap.size, S.cl m, none⟩ (.int .i64 ((ll : Int) + 1))).alloc (.cells #[.int .i64 (ll : Int)] 3)).heap[w3.heap.size]? = some (.cells #[.int .i64 (ll : Int)] 3)) := fun w3 => by
          have h := heap_alloc_new (w3.setCell ⟨w2.heap.size, S.cl m, none⟩ (.int .i64 ((ll : Int) + 1))) (.cells #[.int .i64 (ll : Int)] 3)
          have hss : (w3.setCell ⟨w2.heap.size, S.cl m, none⟩ (.int .i64 ((ll : Int) + 1))).heap.size = w3.heap.size := by simp
          rw [hss] at h
          exact h
        go_wp2_with (first
          | (at_builtin; refine wpList_append_lies _ rfl _ _ _ rfl (w2.heap.size + 1) 3 i0 (.int .i64 0) 1 8 Try.underlying23 hi hz0 hz1 hz2 rfl (by decide) _ ll ((ints (lsF (eqC S.cl) m)).map (Value.int .i64)) rfl ho3 ⟨wr.heap.size, 0, none⟩ 1 1 [.int .i64 (m : Int)] rfl rfl (World.news_of_block (cs := #[.int .i64 (m : Int)]) (t := 3) (fr := (0, 0)) (heap_alloc_new wr _)) (by simp [Value.oneCell']) (by omega) (by unfold maxLen; omega) (by omega) (by simp; omega) (wr.heap.size + 1) (by simp) ?_; clear ho3; intro gl capl w3 hown3 hgr3 hat3 hlt3; obtain ⟨⟨x1, x2⟩, o2', x4, x5⟩ := hkeep.out _ w3 hgr3; have hs3 := hgr3.size; simp at hs3)
          | (at_builtin; refine wpList_append_lies _ rfl _ _ _ rfl (w2.heap.size + 1) 3 i0 (.int .i64 0) 1 8 Try.underlying23 hi hz0 hz1 hz2 rfl (by decide) _ m ((ints (csF (eqC S.cl) m)).map (Value.int .i64)) rfl (o2'.alloc _) ⟨w3.heap.size, 0, none⟩ 1 1 [.int .i64 (ll : Int)] rfl rfl (World.news_of_block (cs := #[.int .i64 (ll : Int)]) (t := 3) (fr := (0, 0)) (hnew3.out w3)) (by simp [Value.oneCell']) (by omega) (by unfold maxLen; omega) (by omega) (by simp; omega) (w3.heap.size + 1) (by simp) ?_; intro gg cap w5 hown5 hgr5 hat5 hlt5))
        go_roundw
        case rel =>
          have := hend.out _ _ w3 w5 gg cap gl capl hown3 hgr3 (hat3.elim Or.inl (fun h => Or.inr (by simpa using h))) hown5 hgr5 (hat5.elim Or.inl (fun h => Or.inr (by simpa using h)))
          have hl1 : (lsF (eqC S.cl) (m + 1)).length = ll + 1 := by rw [hls.out, List.length_append, hll.out]; rfl
          exact ⟨m + 1, some ⟨gg, 0, none⟩, cap, some ⟨gl, 0, none⟩, capl, by omega, congrArg (Value.int .i64) (by omega), rfl, by rw [hl1], by rw [hl1]; exact this⟩
        case measure => simp [intOf]; omega
    · obtain rfl : m = N := by omega
      have hHL := hid hLq.out
      clear hLq
      go_wp2
      go_ret3
      have hF := hHL.out.fm.base (B' := W.heap.size) (by have := hHL.out.bW; omega)
      refine ⟨⟨_, _, rfl, hF.congr2 ?_⟩, hHL.out.b⟩
      have hnum : numF (eqC S.cl) m = numF ee m := numF_congr m (fun x y hx hy => by
        have h1 := hHA.out (x : Int) (y : Int) ⟨by omega, by omega⟩ ⟨by omega, by omega⟩
        have h2 := hHe.out x y hx hy
        rw [Bool.eq_iff_iff, h2, ← h1]
        simp [eqC])
      refine two ?_ ?_
      · show ints (numF (eqC S.cl) m).1 = ints (numF ee m).1
        rw [hnum]
      · show ints (numF (eqC S.cl) m).2 = ints (numF ee m).2
        rw [hnum]
end Go.Proofs.Ytllafbghomohhaa

/- Classes of package bisim; the fixed fact of layer 5. -/
namespace Go.Proofs.Ytllafbghomohhaa
open Go.RowKit

/-- Which nodes unfold alike, by yes and no. -/
theorem al_dec (g : Gf) : ∃ e : Nat → Nat → Bool, ∀ x y : Nat, (e x y = true ↔ Al g (x : Int) (y : Int)) :=
  ⟨fun x y => @decide (Al g (x : Int) (y : Int)) (Classical.propDecidable _), fun _ _ => @decide_eq_true_iff _ (Classical.propDecidable _)⟩
theorem al_eqv {g : Gf} (hg : Good g) {e : Nat → Nat → Bool} (he : ∀ x y : Nat, (e x y = true ↔ Al g (x : Int) (y : Int))) : Eqv e g.nodes.length :=
  ⟨fun x hx => (he x x).2 (al_refl hg ⟨by omega, by omega⟩), fun x y _ _ h => (he y x).2 (al_symm ((he x y).1 h)), fun x y z _ _ _ h1 h2 => (he x z).2 (al_trans ((he x y).1 h1) ((he y z).1 h2))⟩
/-- f of f of itself, f of itself, a variable. -/
def g4 : Gf := ⟨[⟨4, ⟨#[102]⟩, 0, [1]⟩, ⟨4, ⟨#[102]⟩, 0, [0]⟩, ⟨4, ⟨#[102]⟩, 0, [2]⟩, ⟨1, ⟨#[]⟩, 0, []⟩], []⟩
theorem g4_sized : Sized g4 := fun n hn => by
  simp [g4] at hn
  rcases hn with rfl | rfl | rfl | rfl <;> decide
theorem g4_good : one (chk g4) = [] := chk_of_good ⟨by decide, by decide, fun n hn => by
    simp [g4] at hn
    rcases hn with rfl | rfl | rfl | rfl
    · decide
    · decide
    · decide
    · simp [goodNd, ByteArray.toList_eq], fun x hx => by
    simp [g4] at hx⟩
theorem g4_al (x y : Int) (hx : 0 ≤ x ∧ x < 3) (hy : 0 ≤ y ∧ y < 3) : Al g4 x y := by
  refine ⟨fun a b => (0 ≤ a ∧ a < 3) ∧ 0 ≤ b ∧ b < 3, fun a b hab => ?_, hx, hy⟩
  obtain ⟨⟨h1, h2⟩, h3, h4⟩ := hab
  have ea : a = 0 ∨ a = 1 ∨ a = 2 := by omega
  have eb : b = 0 ∨ b = 1 ∨ b = 2 := by omega
  have hl : (g4.nodes.length : Int) = 4 := rfl
  refine ⟨⟨h1, by rw [hl]; omega⟩, ⟨h3, by rw [hl]; omega⟩, ?_, ?_⟩
  · rcases ea with rfl | rfl | rfl <;> rcases eb with rfl | rfl | rfl <;> exact ⟨rfl, rfl, rfl, rfl, fun h => absurd h (by decide)⟩
  · intro k hk
    have hk0 : k = 0 := by
      rcases ea with rfl | rfl | rfl <;> (have : k < 1 := hk; omega)
    subst hk0
    rcases ea with rfl | rfl | rfl <;> rcases eb with rfl | rfl | rfl <;> (show (0 ≤ _ ∧ _ < 3) ∧ 0 ≤ _ ∧ _ < 3; decide)
theorem g4_no : ¬ Al g4 3 0 := fun h => by
  have h1 := (al_sim g4 3 0 h).2.2.1.1
  revert h1
  decide
theorem g4_cs {e : Nat → Nat → Bool} (he : ∀ x y : Nat, (e x y = true ↔ Al g4 (x : Int) (y : Int))) : csF e 4 = [0, 0, 0, 1] := by
  have h1 : e 1 0 = true := (he 1 0).2 (g4_al 1 0 (by omega) (by omega))
  have h2 : e 2 0 = true := (he 2 0).2 (g4_al 2 0 (by omega) (by omega))
  have h3 : e 3 0 = false := by
    cases h : e 3 0
    · rfl
    · exact absurd ((he 3 0).1 h) g4_no
  simp [csF, numF, fnd, h1, h2, h3]
theorem g4_gr (w : World) : Gr (((((w.alloc (.cells #[.int .i64 1] 3)).alloc (.cells #[.int .i64 0] 3)).alloc (.cells #[.int .i64 2] 3)).alloc (.cells #[.int .i64 4, .string ⟨#[102]⟩, .int .i64 0, .slice (some ⟨w.heap.size, 0, none⟩) 1 1, .int .i64 4, .string ⟨#[102]⟩, .int .i64 0, .slice (some ⟨w.heap.size + 1, 0, none⟩) 1 1, .int .i64 4, .string ⟨#[102]⟩, .int .i64 0, .slice (some ⟨w.heap.size + 1 + 1, 0, none⟩) 1 1, .int .i64 1, .string ⟨#[]⟩, .int .i64 0, .slice none 0 0] 56)).alloc (.cells #[.slice (some ⟨w.heap.size + 1 + 1 + 1, 0, none⟩) 4 4, .slice none 0 0] 25)) (.slice (some ⟨w.heap.size + 1 + 1 + 1, 0, none⟩) 4 4) (.slice none 0 0) g4 := by
  refine ⟨⟨some ⟨w.heap.size + 1 + 1 + 1, 0, none⟩, 4, rfl, fun j hj => ?_⟩, Ri.nil _⟩
  have hj' : j < 4 := hj
  match j, hj' with
  | 0, _ => exact ⟨_, _, .slice (some ⟨w.heap.size, 0, none⟩) 1 1, rfl, by simp [g4, go_sem], by simp [g4, go_sem], by simp [g4, go_sem], by simp [go_sem], ⟨some ⟨w.heap.size, 0, none⟩, 1, rfl, fun i hi => by
      have hi' : i = 0 := by
        have : i < 1 := hi
        omega
      subst hi'
      exact ⟨_, _, rfl, by simp [g4, go_sem]⟩⟩⟩
  | 1, _ => exact ⟨_, _, .slice (some ⟨w.heap.size + 1, 0, none⟩) 1 1, rfl, by simp [g4, go_sem], by simp [g4, go_sem], by simp [g4, go_sem], by simp [go_sem], ⟨some ⟨w.heap.size + 1, 0, none⟩, 1, rfl, fun i hi => by
      have hi' : i = 0 := by
        have : i < 1 := hi
        omega
      subst hi'
      exact ⟨_, _, rfl, by simp [g4, go_sem]⟩⟩⟩
  | 2, _ => exact ⟨_, _, .slice (some ⟨w.heap.size + 1 + 1, 0, none⟩) 1 1, rfl, by simp [g4, go_sem], by simp [g4, go_sem], by simp [g4, go_sem], by simp [go_sem], ⟨some ⟨w.heap.size + 1 + 1, 0, none⟩, 1, rfl, fun i hi => by
      have hi' : i = 0 := by
        have : i < 1 := hi
        omega
      subst hi'
      exact ⟨_, _, rfl, by simp [g4, go_sem]⟩⟩⟩
  | 3, _ => exact ⟨_, _, .slice none 0 0, rfl, by simp [g4, go_sem], by simp [g4, go_sem], by simp [g4, go_sem], by simp [go_sem], Ri.nil _⟩
end Go.Proofs.Ytllafbghomohhaa

/- What a trimmed graph is, as plain mathematics: all its nodes are met, in their order; trimmed again it is the same; paths lead to what is labelled as before. -/
namespace Go.Proofs.Ytllafbghomohhaa
open Go.RowKit

theorem len_le_of_subset : ∀ (S l : List Int), l.Nodup → (∀ x ∈ l, x ∈ S) → l.length ≤ S.length
  | [], l, _, h => by
    cases l with
    | nil => simp
    | cons a r => exact absurd (h a (by simp)) (by simp)
  | a :: S, l, hn, h => by
    by_cases hm : a ∈ l
    · have h1 := len_le_of_subset S (l.erase a) (hn.erase _) (fun x hx => by
        have h2 := (hn.mem_erase_iff).1 hx
        rcases List.mem_cons.1 (h x h2.2) with e | e
        · exact absurd e h2.1
        · exact e)
      rw [List.length_erase_of_mem hm] at h1
      simp only [List.length_cons]
      omega
    · have := len_le_of_subset S l hn (fun x hx => by
        rcases List.mem_cons.1 (h x hx) with e | e
        · exact absurd (by rw [← e]; exact hx) hm
        · exact e)
      simp only [List.length_cons]
      omega
/-- A list of nodes within S, none twice. -/
structure In (S m : List Int) : Prop where
  nodup : m.Nodup
  sub : ∀ x ∈ m, x ∈ S
theorem In.snoc {S m : List Int} {n : Int} (h : In S m) (hn : n ∉ m) (hS : n ∈ S) : In S (m ++ [n]) := by
  refine ⟨List.nodup_append.2 ⟨h.nodup, by simp, ?_⟩, fun x hx => ?_⟩
  · intro a ha b hb e
    simp at hb
    subst e hb
    exact hn ha
  · rcases List.mem_append.1 hx with hx | hx
    · exact h.sub x hx
    · simp at hx
      subst hx
      exact hS
theorem In.full {S m : List Int} (h : In S m) (hl : S.length ≤ m.length) {x : Int} (hx : x ∈ S) : x ∈ m := by
  by_cases hm : x ∈ m
  · exact hm
  · have h1 := h.snoc hm hx
    have := len_le_of_subset S (m ++ [x]) h1.nodup h1.sub
    simp at this
    omega
theorem meet_still {g : Gf} (f : Nat) (l m : List Int) (h : ∀ x ∈ l, x ∈ m) : meetF g f l m = m := by
  cases f with
  | zero => rfl
  | succ f =>
    rw [meetF_succ]
    induction l with
    | nil => rfl
    | cons n r ih =>
      rw [List.foldl_cons]
      have : stepF g f m n = m := if_pos (h n (by simp))
      rw [this]
      exact ih (fun x hx => h x (by simp [hx]))
theorem meet_inS {g : Gf} {S : List Int} (hc : ∀ x ∈ S, ∀ y ∈ g.argsOf x, y ∈ S) : ∀ (f : Nat) (l m : List Int), (∀ x ∈ l, x ∈ S) → In S m → In S (meetF g f l m) ∧ m.length ≤ (meetF g f l m).length
  | 0, _, m, _, h => ⟨h, Nat.le_refl _⟩
  | f + 1, l, m, hl, h => by
    rw [meetF_succ]
    induction l generalizing m with
    | nil => exact ⟨h, Nat.le_refl _⟩
    | cons n r ih =>
      rw [List.foldl_cons]
      have hn := hl n (by simp)
      have hs : In S (stepF g f m n) ∧ m.length ≤ (stepF g f m n).length := by
        unfold stepF
        split
        · exact ⟨h, Nat.le_refl _⟩
        · rename_i hm
          have h1 := meet_inS hc f (g.argsOf n) (m ++ [n]) (hc n hn) (h.snoc hm hn)
          refine ⟨h1.1, ?_⟩
          have := h1.2
          simp at this
          omega
      have h2 := ih (stepF g f m n) (fun x hx => hl x (by simp [hx])) hs.1
      exact ⟨h2.1, Nat.le_trans hs.2 h2.2⟩
/-- How deep one may go makes no difference, if it is deep enough. -/
theorem meet_fuel {g : Gf} {S : List Int} (hc : ∀ x ∈ S, ∀ y ∈ g.argsOf x, y ∈ S) : ∀ (f f' : Nat) (l m : List Int), (∀ x ∈ l, x ∈ S) → In S m → S.length ≤ m.length + f → S.length ≤ m.length + f' → meetF g f l m = meetF g f' l m
  | 0, f', l, m, hl, h, hf, _ => by
    rw [meet_still f' l m (fun x hx => h.full (by omega) (hl x hx))]
    rfl
  | f + 1, 0, l, m, hl, h, _, hf' => by
    rw [meet_still (f + 1) l m (fun x hx => h.full (by omega) (hl x hx))]
    rfl
  | f + 1, f' + 1, l, m, hl, h, hf, hf' => by
    rw [meetF_succ, meetF_succ]
    induction l generalizing m with
    | nil => rfl
    | cons n r ih =>
      rw [List.foldl_cons, List.foldl_cons]
      have hn := hl n (by simp)
      have hs : stepF g f m n = stepF g f' m n := by
        unfold stepF
        split
        · rfl
        · rename_i hm
          exact meet_fuel hc f f' (g.argsOf n) (m ++ [n]) (hc n hn) (h.snoc hm hn) (by simp; omega) (by simp; omega)
      rw [← hs]
      have hk : In S (stepF g f m n) ∧ m.length ≤ (stepF g f m n).length := by
        have := meet_inS hc (f + 1) [n] m (by simpa using hn) h
        exact this
      exact ih (stepF g f m n) (fun x hx => hl x (by simp [hx])) hk.1 (by omega) (by omega)
/-- The same walk in a graph whose nodes are numbered otherwise. -/
theorem meet_map {g t : Gf} {S : List Int} {F : Int → Int} (hc : ∀ x ∈ S, ∀ y ∈ g.argsOf x, y ∈ S) (hF : ∀ x ∈ S, ∀ y ∈ S, F x = F y → x = y) (ht : ∀ x ∈ S, t.argsOf (F x) = (g.argsOf x).map F) :
    ∀ (f : Nat) (l m : List Int), (∀ x ∈ l, x ∈ S) → In S m → meetF t f (l.map F) (m.map F) = (meetF g f l m).map F
  | 0, _, _, _, _ => rfl
  | f + 1, l, m, hl, h => by
    rw [meetF_succ, meetF_succ]
    induction l generalizing m with
    | nil => rfl
    | cons n r ih =>
      rw [List.map_cons, List.foldl_cons, List.foldl_cons]
      have hn := hl n (by simp)
      have hs : stepF t f (m.map F) (F n) = (stepF g f m n).map F := by
        unfold stepF
        by_cases hm : n ∈ m
        · rw [if_pos hm, if_pos (List.mem_map.2 ⟨n, hm, rfl⟩)]
        · have hm' : F n ∉ m.map F := fun hx => by
            obtain ⟨y, hy, e⟩ := List.mem_map.1 hx
            exact hm (by rw [← hF y (h.sub y hy) n hn e]; exact hy)
          rw [if_neg hm, if_neg hm', ht n hn]
          have := meet_map hc hF ht f (g.argsOf n) (m ++ [n]) (hc n hn) (h.snoc hm hn)
          rw [List.map_append] at this
          exact this
      rw [hs]
      have hk := (meet_inS hc (f + 1) [n] m (by simpa using hn) h).1
      exact ih (stepF g f m n) (fun x hx => hl x (by simp [hx])) hk
/-- The numbers from 0 on. -/
def iota (n : Nat) : List Int := (List.range n).map (fun (i : Nat) => (i : Int))
theorem iota_len (n : Nat) : (iota n).length = n := by simp [iota]
theorem iota_mem {n : Nat} {x : Int} : x ∈ iota n ↔ 0 ≤ x ∧ x < (n : Int) := by
  simp only [iota, List.mem_map, List.mem_range]
  constructor
  · rintro ⟨i, hi, rfl⟩
    omega
  · rintro ⟨h0, h1⟩
    exact ⟨x.toNat, by omega, by omega⟩
theorem iota_nodup (n : Nat) : (iota n).Nodup := by
  have h1 := List.nodup_iff_pairwise_ne.1 (List.nodup_range (n := n))
  rw [iota, List.nodup_iff_pairwise_ne, List.pairwise_map]
  have e : (fun (a b : Nat) => (a : Int) ≠ (b : Int)) = fun (a b : Nat) => a ≠ b := by
    funext a b
    exact propext ⟨fun h e => h (by rw [e]), fun h e => h (by omega)⟩
  rw [e]
  exact h1
theorem iota_getD {n i : Nat} (h : i < n) : (iota n).getD i 0 = (i : Int) := by simp [iota, List.getD, h]
theorem pos_of_getD : ∀ {m : List Int} {i : Nat}, m.Nodup → i < m.length → pos m (m.getD i 0) = i
  | [], i, _, h => absurd h (Nat.not_lt_zero _)
  | y :: r, 0, _, _ => by simp [pos]
  | y :: r, i + 1, hn, h => by
    have hr := List.nodup_cons.1 hn
    have hi : i < r.length := by simpa using h
    have h1 := pos_of_getD hr.2 hi
    have hne : ¬ y = r.getD i 0 := fun e => hr.1 (by rw [e]; exact getD_mem hi)
    simp only [List.getD_cons_succ, pos, if_neg hne, h1]
theorem posF_iota {n : Nat} {x : Int} (h0 : 0 ≤ x) (h1 : x < n) : posF (iota n) x = x := by
  have hx : x ∈ iota n := iota_mem.2 ⟨h0, h1⟩
  unfold posF
  rw [if_pos hx]
  have h2 := pos_of_getD (m := iota n) (i := x.toNat) (iota_nodup n) (by rw [iota_len]; omega)
  rw [iota_getD (by omega)] at h2
  have e : ((x.toNat : Nat) : Int) = x := by omega
  rw [e] at h2
  omega
theorem list_ext0 {l m : List Int} (h : l.length = m.length) (he : ∀ j, j < l.length → l.getD j 0 = m.getD j 0) : l = m := by
  apply List.ext_getElem h
  intro i h1 h2
  have := he i h1
  simpa [List.getD, h1, h2] using this
theorem map_pos {m : List Int} (h : m.Nodup) : m.map (posF m) = iota m.length := by
  apply list_ext0
  · simp [iota_len]
  · intro j hj
    have hj' : j < m.length := by simpa using hj
    rw [iota_getD hj']
    have e : (m.map (posF m)).getD j 0 = posF m (m.getD j 0) := by simp [List.getD, hj']
    rw [e]
    unfold posF
    rw [if_pos (getD_mem hj'), pos_of_getD h hj']
theorem pos_inj {g : Gf} (_ : Good g) : ∀ x ∈ metF g, ∀ y ∈ metF g, posF (metF g) x = posF (metF g) y → x = y := fun x hx y hy e => by
  unfold posF at e
  rw [if_pos hx, if_pos hy] at e
  have e' : pos (metF g) x = pos (metF g) y := by omega
  rw [← pos_at hx, ← pos_at hy, e']
theorem pos_rng {g : Gf} (_ : Good g) : ∀ x ∈ metF g, 0 ≤ posF (metF g) x ∧ posF (metF g) x < ((metF g).length : Int) := fun x hx => by
  have := pos_lt hx
  unfold posF
  rw [if_pos hx]
  omega
theorem trim_len {g : Gf} (_ : Good g) : (trimF g).nodes.length = (metF g).length := by simp [trimF]
/-- A node of the trimmed graph. -/
theorem trim_node {g : Gf} (_ : Good g) : ∀ x ∈ metF g, (trimF g).nodes.getD (posF (metF g) x).toNat nd0 = renum (posF (metF g)) (g.nodes.getD x.toNat nd0) := fun x hx => by
  have h1 := pos_lt hx
  have h2 : (posF (metF g) x).toNat = pos (metF g) x := by
    unfold posF
    rw [if_pos hx]
    omega
  rw [h2]
  have h3 := pos_at hx
  simp only [List.getD] at h3
  simp only [trimF, List.getD, List.getElem?_map, h1, List.getElem?_eq_getElem, Option.map_some, Option.getD_some]
  rw [List.getElem?_eq_getElem h1, Option.getD_some] at h3
  rw [h3]
theorem trim_args {g : Gf} (hg : Good g) : ∀ x ∈ metF g, (trimF g).argsOf (posF (metF g) x) = (g.argsOf x).map (posF (metF g)) := fun x hx => by
  unfold Gf.argsOf
  rw [trim_node hg x hx]
  rfl
theorem trim_met {g : Gf} (hg : Good g) : metF (trimF g) = iota (metF g).length := by
  have hc := met_arg hg
  have hS : In (metF g) [] := ⟨List.nodup_nil, by simp⟩
  have h1 := meet_map hc (pos_inj hg) (trim_args hg) (metF g).length g.roots [] (met_root hg) hS
  have h2 := meet_fuel hc (metF g).length g.nodes.length g.roots [] (met_root hg) hS (by simp) (by have := (met_ok hg).le; simp; omega)
  have h3 : meetF g g.nodes.length g.roots [] = metF g := rfl
  rw [h2, h3, map_pos (met_ok hg).nodup] at h1
  have h4 : metF (trimF g) = meetF (trimF g) (metF g).length (g.roots.map (posF (metF g))) [] := by
    unfold metF
    rw [trim_len hg]
    rfl
  rw [h4]
  exact h1
theorem trim_good0 {g : Gf} (hg : Good g) : Good (trimF g) := by
  have hml := (met_ok hg).le
  have h1 := hg.nodes
  have h2 := hg.roots
  refine ⟨by rw [trim_len hg]; omega, by simp [trimF]; omega, fun n hn => ?_, fun x hx => ?_⟩
  · obtain ⟨x, hx, rfl⟩ := List.mem_map.1 hn
    have hr := (met_ok hg).rng x hx
    have hgd := hg.node (g.nodes.getD x.toNat nd0) (by
      have : x.toNat < g.nodes.length := by omega
      simp [List.getD, this])
    have hst : ((g.nodes.getD x.toNat nd0).args.map (posF (metF g))).any (strange (trimF g).nodes.length) = false := by
      rw [List.any_eq_false]
      intro y hy
      obtain ⟨z, hz, rfl⟩ := List.mem_map.1 hy
      have := pos_rng hg z (met_arg hg x hx z hz)
      rw [trim_len hg]
      simp [strange]
      omega
    unfold goodNd at hgd ⊢
    simp only [renum, List.length_map, hst]
    split
    · rename_i hk
      rw [if_pos hk] at hgd
      exact hgd
    · rename_i hk
      rw [if_neg hk] at hgd
      split
      · rename_i hk2
        rw [if_pos hk2] at hgd
        exact hgd
      · rename_i hk2
        rw [if_neg hk2] at hgd
        split
        · rename_i hk3
          rw [if_pos hk3] at hgd
          exact hgd
        · rename_i hk3
          rw [if_neg hk3] at hgd
          split
          · rename_i hk4
            rw [if_pos hk4] at hgd
            simp only [Bool.and_eq_true] at hgd ⊢
            exact ⟨hgd.1, rfl⟩
          · rename_i hk4
            rw [if_neg hk4] at hgd
            exact hgd
  · obtain ⟨z, hz, rfl⟩ := List.mem_map.1 hx
    rw [trim_len hg]
    exact pos_rng hg z (met_root hg z hz)
theorem trim_twice {g : Gf} (hg : Good g) : trimF (trimF g) = trimF g := by
  have ht := trim_good0 hg
  have hm := trim_met hg
  have hl := trim_len hg
  have hid' : ∀ x : Int, 0 ≤ x → x < ((trimF g).nodes.length : Int) → posF (iota (metF g).length) x = x := fun x h0 h1 => posF_iota h0 (by rw [hl] at h1; exact h1)
  have hn : (trimF (trimF g)).nodes = (trimF g).nodes := by
    have e : (trimF (trimF g)).nodes = (iota (metF g).length).map (fun x => renum (posF (iota (metF g).length)) ((trimF g).nodes.getD x.toNat nd0)) := by
      rw [← hm]
      rfl
    rw [e]
    apply List.ext_getElem
    · simp [iota_len, hl]
    · intro i h1 h2
      have hi : i < (metF g).length := by simpa [iota_len] using h1
      have e2 : (trimF g).nodes.getD i nd0 = (trimF g).nodes[i] := by simp [List.getD, h2]
      simp only [List.getElem_map, iota, List.getElem_range, Int.toNat_natCast]
      rw [e2]
      have hga := (good_args (ht.node _ (List.getElem_mem h2))).1
      generalize (trimF g).nodes[i] = n at hga ⊢
      obtain ⟨k, s, u, a⟩ := n
      simp only [renum, Nd.mk.injEq, true_and]
      have h3 : a.map (posF (iota (metF g).length)) = a.map id := List.map_congr_left (fun x hx => hid' x (hga x hx).1 (hga x hx).2)
      exact h3.trans (List.map_id _)
  have hr : (trimF (trimF g)).roots = (trimF g).roots := by
    have e : (trimF (trimF g)).roots = (trimF g).roots.map (posF (iota (metF g).length)) := by
      rw [← hm]
      rfl
    rw [e]
    have h3 : (trimF g).roots.map (posF (iota (metF g).length)) = (trimF g).roots.map id := List.map_congr_left (fun x hx => hid' x (ht.root x hx).1 (ht.root x hx).2)
    rw [h3, List.map_id]
  have e1 : trimF (trimF g) = ⟨(trimF (trimF g)).nodes, (trimF (trimF g)).roots⟩ := rfl
  rw [e1, hn, hr]
/-- A path from a node that is met leads in the trimmed graph to the same node. -/
theorem trim_path {g : Gf} (hg : Good g) : ∀ (path : List Int) (x : Int), x ∈ metF g → (goF g x path).2 = (goF (trimF g) (posF (metF g) x) path).2 ∧ ((goF g x path).2 = true → (goF g x path).1 ∈ metF g ∧ (goF (trimF g) (posF (metF g) x) path).1 = posF (metF g) (goF g x path).1)
  | [], x, hx => ⟨rfl, fun _ => ⟨hx, rfl⟩⟩
  | s :: r, x, hx => by
    have ha := trim_args hg x hx
    simp only [goF, ha, List.length_map]
    by_cases hs : s < 0 ∨ ((g.argsOf x).length : Int) ≤ s
    · rw [if_pos hs, if_pos hs]
      exact ⟨rfl, fun h => by cases h⟩
    · rw [if_neg hs, if_neg hs]
      have hlt : s.toNat < (g.argsOf x).length := by omega
      have e : ((g.argsOf x).map (posF (metF g))).getD s.toNat 0 = posF (metF g) ((g.argsOf x).getD s.toNat 0) := by simp [List.getD, hlt]
      rw [e]
      exact trim_path hg r _ (met_arg hg x hx _ (getD_mem hlt))
end Go.Proofs.Ytllafbghomohhaa
