/- TieLeast, walked. -/
import Derived.Test.Ytncileojdighnaaow49Z
import Derived.Test.Ytncileojdighnaaow35Z
import Derived.Test.Ytncileojdighnaaow50Z
import Derived.Test.Ytncileojdighnaaow11Z
import Derived.Test.Ytncileojdighnaaow20Z
import Derived.Test.Ytncileojdighnaaow37Z
namespace Go.Proofs.Ytncileojdighnaa
set_option maxRecDepth 100000
open Go.RowKit Go.Maps
theorem tieC_good {xs : List Ex} {qs : List (ByteArray × Ex)} (hc : (tieC xs qs).1 = 0) : GoodT xs qs ∧ (namA xs qs).length + othA xs qs ≤ 4096 := by
  have hk : (chkT xs qs).1 = 0 := Classical.byContradiction fun h => by
    unfold tieC at hc
    rw [if_pos h] at hc
    exact h hc
  refine ⟨chkT_good hk, Classical.byContradiction fun h => ?_⟩
  unfold tieC at hc
  rw [if_neg (by simpa using hk), if_pos (by omega)] at hc
  cases hc
theorem good_fits {g : Gf} (hg : Good g) : Fits g := ⟨by have := hg.nodes; omega, by have := hg.roots; omega, fun n hn => by have := (good_args (hg.node n hn)).2; omega⟩
end Go.Proofs.Ytncileojdighnaa

namespace Go.Proofs.Ytncileojdighnaa
set_option maxRecDepth 100000
open Go.RowKit Go.Maps
abbrev ovS : ByteArray := ⟨#[111, 118, 101, 114]⟩
theorem isW_no {s : ByteArray} (h : isW s 4 = true) : s ≠ ovS := fun e => by
  subst e
  revert h
  decide
mutual
theorem namX_w : ∀ (nest : Nat) (l : List ByteArray) (x : Ex), (∀ s ∈ l, isW s 4 = true) → goodX nest x = true → ∀ s ∈ namX l x, isW s 4 = true
  | nest, l, .mk k n m xs, hl, hg => by
    rw [namX]
    rcases goodX_parts hg with ⟨rfl, hw, _, rfl⟩ | ⟨rfl, _, _, rfl⟩ | ⟨rfl, _, _, _, rfl⟩ | ⟨rfl, _, _, _, _, hx⟩
    · rw [namXs]
      split
      · intro s hs
        unfold putS at hs
        split at hs
        · exact hl s hs
        · rcases List.mem_append.1 hs with e | e
          · exact hl s e
          · simp at e; subst e; exact hw
      · exact hl
    · rw [namXs, if_neg (by simp)]; exact hl
    · rw [namXs, if_neg (by simp)]; exact hl
    · rw [if_neg (by simp)]
      exact namXs_w _ l xs hl hx
theorem namXs_w : ∀ (nest : Nat) (l : List ByteArray) (xs : List Ex), (∀ s ∈ l, isW s 4 = true) → goodXs nest xs = true → ∀ s ∈ namXs l xs, isW s 4 = true
  | _, l, [], hl, _ => by rw [namXs]; exact hl
  | nest, l, x :: r, hl, hg => by
    rw [goodXs, Bool.and_eq_true] at hg
    rw [namXs]
    exact namXs_w nest _ r (namX_w nest l x hl hg.1) hg.2
end
theorem namQ_w : ∀ (l : List ByteArray) (qs : List (ByteArray × Ex)), (∀ s ∈ l, isW s 4 = true) → (∀ q ∈ qs, isW q.1 4 = true) → (∀ q ∈ qs, goodX 0 q.2 = true) → ∀ s ∈ namQ l qs, isW s 4 = true
  | l, [], hl, _, _ => by rw [namQ]; exact hl
  | l, q :: r, hl, h1, h2 => by
    rw [namQ]
    refine namQ_w _ r (namX_w 0 _ q.2 (fun s hs => ?_) (h2 q (by simp))) (fun y hy => h1 y (by simp [hy])) (fun y hy => h2 y (by simp [hy]))
    unfold putS at hs
    split at hs
    · exact hl s hs
    · rcases List.mem_append.1 hs with e | e
      · exact hl s e
      · simp at e; subst e; exact h1 q (by simp)
theorem namA_w {xs : List Ex} {qs : List (ByteArray × Ex)} (h : GoodT xs qs) : ∀ s ∈ namA xs qs, isW s 4 = true :=
  namQ_w _ qs (namXs_w 0 [] xs (by simp) (goodXs_all0 h.ex)) (fun q hq => (h.q.nm q hq).1) h.q.ex
theorem tie_sizes {xs : List Ex} {qs : List (ByteArray × Ex)} (hc : (tieC xs qs).1 = 0) (hp : prtXs xs + prtQ qs ≤ 350) {e : Nat → Nat → Bool} (hd : ∀ x y : Nat, (e x y = true ↔ Al (tieG xs qs) (x : Int) (y : Int))) :
    Fits (trimF (quoF e (tieG xs qs))) ∧ (trimF (quoF e (tieG xs qs))).nodes.length ≤ 800 ∧ (trimF (quoF e (tieG xs qs))).roots.length ≤ 4096 ∧ (∀ n ∈ (trimF (quoF e (tieG xs qs))).nodes, n.args.length ≤ 4900) ∧ ∀ i, i < (nmdF e (tieG xs qs) (tieE xs qs) (namA xs qs) (namA xs qs).length).length → ((nmdF e (tieG xs qs) (tieE xs qs) (namA xs qs) (namA xs qs).length).getD i nm0).1 ≠ ovS := by
  obtain ⟨hg, hb⟩ := tieC_good hc
  have hGG := tie_goodG hg hb
  have hq := quo_good hGG (al_eqv hGG hd)
  have hT := trim_good0 hq
  have h1 := trim_len hq
  have h2 := (met_ok hq).le
  have h3 := quo_len e (tieG xs qs)
  have h4 := lsF_le e (tieG xs qs).nodes.length
  have h5 : (tieG xs qs).nodes.length = (namA xs qs).length + othA xs qs := by
    have := (tie_good hg).len
    simpa [tieG, gE] using this
  have h6 := namA_len xs qs
  have h7 := othA_le xs qs
  refine ⟨good_fits hT, by omega, by have := hT.roots; omega, fun n hn => by have := (good_args (hT.node n hn)).2; omega, fun i hi => ?_⟩
  have hm : (nmdF e (tieG xs qs) (tieE xs qs) (namA xs qs) (namA xs qs).length).getD i nm0 ∈ nmdF e (tieG xs qs) (tieE xs qs) (namA xs qs) (namA xs qs).length := by simp [List.getD, hi]
  obtain ⟨j, hj, e1, _⟩ := nmd_at _ _ _ _ _ _ hm
  rw [e1]
  exact isW_no (namA_w hg _ (inN_iff.1 (sg_in hj)))
def TieA (xs : List Ex) (qs : List (ByteArray × Ex)) (T : Gf) (ms : List (ByteArray × Int)) (B : Nat) (w : World) (a : Option Addr) (N k : Nat) (r : Option Addr) (R d : Nat) (mo : Option Addr) (M mc : Nat) (ev : Value) : Prop :=
  ((tieC xs qs).1 ≠ 0 ∧ ∃ b, ev = .iface 85 (.pointer (some ⟨b, 0, none⟩))) ∨ ((tieC xs qs).1 = 0 ∧ ev = .nilIface ∧ N = T.nodes.length ∧ R = T.roots.length ∧ M = ms.length ∧ (∃ av, Og w B (.slice a T.nodes.length k) (.slice r T.roots.length d) av T) ∧ w.ownsRow B 56 2 (.slice mo ms.length mc) ms.length (mcells ms))
theorem tie_two {W : World} {xv qv : Value} {xs : List Ex} {qs : List (ByteArray × Ex)} (hX : Rxs W xv xs) (hQ : Rqs W qv qs) (hzx : szXs xs) (hzq : ∀ q ∈ qs, q.1.size ≤ 281474976710656 ∧ szX q.2) (hp : prtXs xs + prtQ qs ≤ 30000) (ee : Nat → Nat → Bool) (hd : ∀ x y : Nat, (ee x y = true ↔ Al (tieG xs qs) (x : Int) (y : Int))) :
    Calls Try.prog 9 #[xv, qv] W fun e w' => (∃ a N k r R d mo M mc ev, e = .returned (.tuple #[.agg #[.slice a N k, .slice r R d], .slice mo M mc, ev]) ∧ TieA xs qs (trimF (quoF ee (tieG xs qs))) (nmdF ee (tieG xs qs) (tieE xs qs) (namA xs qs) (namA xs qs).length) W.heap.size w' a N k r R d mo M mc ev) ∧ Below W.heap.size W w' := by
  by_cases hc : (tieC xs qs).1 = 0
  · refine (tie_ok hX hQ hzx hzq hp hc ee hd).mono ?_
    rintro e w' ⟨⟨nv, rv, avs, mv, rfl, hO, hM⟩, hb⟩
    obtain ⟨a, k, rfl⟩ := hO.nsl
    obtain ⟨r, d, rfl, _⟩ := hO.r
    obtain ⟨mo, mc, rfl⟩ := own_sl hM
    exact ⟨⟨_, _, _, _, _, _, _, _, _, _, rfl, Or.inr ⟨hc, rfl, rfl, rfl, rfl, ⟨avs, hO⟩, hM⟩⟩, hb⟩
  · refine (tie_bad hX hQ hzx hzq (by omega) hc).mono ?_
    rintro e w' ⟨⟨ev, rfl, b, rfl, _⟩, hb⟩
    exact ⟨⟨_, _, _, _, _, _, _, _, _, _, rfl, Or.inl ⟨hc, b, rfl⟩⟩, hb⟩
structure R1 (T : Gf) (B q : Nat) (a r : Option Addr) (k d : Nat) (av : List Value) (w : World) : Prop where
  le : B ≤ q
  og : Og w B (.slice a T.nodes.length k) (.slice r T.roots.length d) av T
  rng : ∀ b ∈ blocks (.slice a T.nodes.length k :: .slice r T.roots.length d :: av), B ≤ b ∧ b < q
  x : w.heap[q]? = some (.cells #[.slice a T.nodes.length k, .slice r T.roots.length d] 29)
theorem og_rng {w : World} {B : Nat} {nv rv : Value} {av : List Value} {T : Gf} (h : Og w B nv rv av T) : ∀ b ∈ blocks (nv :: rv :: av), B ≤ b ∧ b < w.heap.size := fun b hb => by
  obtain ⟨v, hv, e⟩ := List.mem_filterMap.1 hb
  rcases List.mem_cons.1 hv with rfl | hv
  · exact h.on.n.lt b e
  · rcases List.mem_cons.1 hv with rfl | hv
    · obtain ⟨ro, rc, rfl, hr⟩ := h.r
      exact hr.lt b e
    · exact h.on.lt b (List.mem_filterMap.2 ⟨v, by simp [hv], e⟩)
theorem R1.start {w w1 : World} {T : Gf} {a r : Option Addr} {k d : Nat} {av : List Value} (hb : Below w.heap.size w w1) (h : Og w1 w.heap.size (.slice a T.nodes.length k) (.slice r T.roots.length d) av T) : R1 T w.heap.size w1.heap.size a r k d av (w1.alloc (.cells #[.slice a T.nodes.length k, .slice r T.roots.length d] 29)) :=
  ⟨hb.size, h.below (below_alloc w1 _), og_rng h, heap_alloc_new w1 _⟩
theorem R1.next {w w' : World} {T : Gf} {B q : Nat} {a r : Option Addr} {k d : Nat} {av : List Value} (h : R1 T B q a r k d av w) (hb : Below w.heap.size w w') : R1 T B q a r k d av w' := ⟨h.le, h.og.below hb, h.rng, (hb.block q (lt_of_block h.x)).trans h.x⟩
theorem og_keepB {w w' : World} {B : Nat} {nv rv : Value} {av : List Value} {T : Gf} (h : Og w B nv rv av T) (hk : ∀ b ∈ blocks (nv :: rv :: av), w'.heap[b]? = w.heap[b]?) : Og w' B nv rv av T := by
  refine ⟨⟨own_block h.on.n (fun b e => hk b (List.mem_filterMap.2 ⟨nv, by simp, e⟩)), h.on.len, fun j hj => ?_, h.on.nd⟩, h.nsl, ?_, h.ap⟩
  · obtain ⟨ao, c, e, ho⟩ := h.on.a j hj
    have hj' : j < av.length := by rw [h.on.len]; exact hj
    refine ⟨ao, c, e, own_block ho (fun b eb => hk b (List.mem_filterMap.2 ⟨av.getD j undef, ?_, by rw [e]; exact eb⟩))⟩
    simp [List.getD, hj']
  · obtain ⟨ro, rc, e, hr⟩ := h.r
    exact ⟨ro, rc, e, own_block hr (fun b eb => hk b (List.mem_filterMap.2 ⟨rv, by simp, by rw [e]; exact eb⟩))⟩
theorem og_ty {w : World} {B : Nat} {nv rv : Value} {av : List Value} {T : Gf} (h : Og w B nv rv av T) : ∀ b ∈ blocks (nv :: rv :: av), ∃ (cs : Array Value) (t : TypeId), w.heap[b]? = some (.cells cs t (0, 0)) ∧ (t = 63 ∨ t = 3) := fun b hb => by
  obtain ⟨v, hv, e⟩ := List.mem_filterMap.1 hb
  rcases List.mem_cons.1 hv with rfl | hv
  · obtain ⟨cs, hc, _⟩ := own_block_obj h.on.n e
    exact ⟨cs, _, hc, Or.inl rfl⟩
  · rcases List.mem_cons.1 hv with rfl | hv
    · obtain ⟨ro, rc, rfl, hr⟩ := h.r
      obtain ⟨cs, hc, _⟩ := own_block_obj hr e
      exact ⟨cs, _, hc, Or.inr rfl⟩
    · obtain ⟨j, hj, rfl⟩ := List.getElem_of_mem hv
      obtain ⟨ao, c, e1, ho⟩ := h.on.a j (by rw [← h.on.len]; exact hj)
      have e2 : av.getD j undef = av[j] := by simp [List.getD, hj]
      rw [← e2, e1] at e
      obtain ⟨cs, hc, _⟩ := own_block_obj ho e
      exact ⟨cs, _, hc, Or.inr rfl⟩
structure Oth (w w' : World) (p : Option Nat) : Prop where
  os : w'.os = w.os
  tape : w'.tape = w.tape
  output : w'.output = w.output
  size : w.heap.size ≤ w'.heap.size
  block : ∀ k, k < w.heap.size → some k ≠ p → w'.heap[k]? = w.heap[k]?
theorem R1.oth {w w' : World} {T : Gf} {B q p : Nat} {a r : Option Addr} {k d : Nat} {av : List Value} (h : R1 T B q a r k d av w) (ho : Oth w w' (some p)) {cs : Array Value} (hp : w.heap[p]? = some (.cells cs 56 (0, 0))) : R1 T B q a r k d av w' := by
  have hx := h.x
  refine ⟨h.le, og_keepB h.og (fun b hb => ?_), h.rng, (ho.block q (lt_of_block hx) (fun e => ?_)).trans hx⟩
  · obtain ⟨cs2, t, hb2, ht⟩ := og_ty h.og b hb
    refine ho.block b (lt_of_block hb2) (fun e => ?_)
    injection e with e
    subst e
    rw [hp] at hb2
    injection hb2 with hb2
    injection hb2 with _ e2
    rcases ht with rfl | rfl <;> simp at e2
  · injection e with e
    subst e
    rw [hp] at hx
    simp at hx
structure Tn (W : World) (T : Gf) (ms : List (ByteArray × Int)) (B1 q1 B2 q2 B3 q3 : Nat) (a1 r1 a2 r2 a3 r3 : Option Addr) (k1 d1 k2 d2 k3 d3 : Nat) (v1 v2 v3 : List Value) (mo : Option Addr) (mc : Nat) (w : World) : Prop where
  b : Below W.heap.size W w
  g1 : R1 T B1 q1 a1 r1 k1 d1 v1 w
  g2 : R1 T B2 q2 a2 r2 k2 d2 v2 w
  g3 : R1 T B3 q3 a3 r3 k3 d3 v3 w
  m : w.ownsRow B2 56 2 (.slice mo ms.length mc) ms.length (mcells ms)
  o : W.heap.size ≤ B1 ∧ q1 < B2 ∧ q2 < B3
section
variable {W : World} {T : Gf} {ms : List (ByteArray × Int)} {B1 q1 B2 q2 B3 q3 : Nat} {a1 r1 a2 r2 a3 r3 : Option Addr} {k1 d1 k2 d2 k3 d3 : Nat} {v1 v2 v3 : List Value} {mo : Option Addr} {mc : Nat} {w w' : World}
theorem Tn.next (h : Tn W T ms B1 q1 B2 q2 B3 q3 a1 r1 a2 r2 a3 r3 k1 d1 k2 d2 k3 d3 v1 v2 v3 mo mc w) (hb : Below w.heap.size w w') : Tn W T ms B1 q1 B2 q2 B3 q3 a1 r1 a2 r2 a3 r3 k1 d1 k2 d2 k3 d3 v1 v2 v3 mo mc w' := ⟨Below.next h.b hb, h.g1.next hb, h.g2.next hb, h.g3.next hb, own_below h.m hb, h.o⟩
theorem Tn.oth {p : Nat} (h : Tn W T ms B1 q1 B2 q2 B3 q3 a1 r1 a2 r2 a3 r3 k1 d1 k2 d2 k3 d3 v1 v2 v3 mo mc w) (ho : Oth w w' (some p)) {cs : Array Value} (hp : w.heap[p]? = some (.cells cs 56 (0, 0))) (h1 : B1 ≤ p ∧ p < q1) : Tn W T ms B1 q1 B2 q2 B3 q3 a1 r1 a2 r2 a3 r3 k1 d1 k2 d2 k3 d3 v1 v2 v3 mo mc w' := by
  have o := h.o
  refine ⟨⟨ho.os.trans h.b.os, ho.tape.trans h.b.tape, ho.output.trans h.b.output, Nat.le_trans h.b.size ho.size, fun k hk => ?_⟩, h.g1.oth ho hp, h.g2.oth ho hp, h.g3.oth ho hp, own_block h.m (fun b e => ho.block b (h.m.lt b e).2 (fun e' => ?_)), h.o⟩
  · rw [ho.block k (by have := h.b.size; omega) (fun e => by injection e with e; omega)]
    exact h.b.block k hk
  · injection e' with e'
    have := (h.m.lt b e).1
    omega
theorem Tn.cells (h : Tn W T ms B1 q1 B2 q2 B3 q3 a1 r1 a2 r2 a3 r3 k1 d1 k2 d2 k3 d3 v1 v2 v3 mo mc w) : ((w.cell? ⟨q1, 0, none⟩ = some (.slice a1 T.nodes.length k1) ∧ w.cell? ⟨q1, 1, none⟩ = some (.slice r1 T.roots.length d1)) ∧ (w.cell? ⟨q2, 0, none⟩ = some (.slice a2 T.nodes.length k2) ∧ w.cell? ⟨q2, 1, none⟩ = some (.slice r2 T.roots.length d2)) ∧ (w.cell? ⟨q3, 0, none⟩ = some (.slice a3 T.nodes.length k3) ∧ w.cell? ⟨q3, 1, none⟩ = some (.slice r3 T.roots.length d3))) ∧ q1 < w.heap.size ∧ q2 < w.heap.size ∧ q3 < w.heap.size :=
  ⟨⟨(blk2 h.g1.x).1, (blk2 h.g2.x).1, (blk2 h.g3.x).1⟩, lt_of_block h.g1.x, lt_of_block h.g2.x, lt_of_block h.g3.x⟩
end
theorem own_setZ {w : World} {B z : Nat} {e : TypeId} {n q c t : Nat} {xs : List Value} (h : w.ownsRow B e z (.slice (some ⟨q, 0, none⟩) n c) n xs) (v : Value) : (w.setCell ⟨q, t, none⟩ v).ownsRow B e z (.slice (some ⟨q, 0, none⟩) n c) n (xs.set t v) := by
  obtain ⟨h1, h2⟩ := h
  rcases h2 with ⟨h2, _⟩ | ⟨g, cap, cur, hv, hB, hg, hle, hm, hs, ht⟩
  · cases h2
  · have hv' := hv
    injection hv with e1 _ e3
    injection e1 with e1
    injection e1 with e1 _ _
    subst e1 e3
    refine ⟨by simpa using h1, Or.inr ⟨q, c, cur.setIfInBounds t v, rfl, hB, heap_setCell_same w q t _ _ v hg, hle, hm, by simpa using hs, ?_⟩⟩
    rw [Array.toList_setIfInBounds, List.take_set, ht]
structure Nv (B q : Nat) (na : Option Addr) (nc M i : Nat) (w : World) : Prop where
  own : ∃ xs, w.ownsRow B 56 2 (.slice na M nc) M xs ∧ ∀ j, j < i → xs[j * 2]? = some (.string ovS)
  hi : ∀ b, (Value.slice na M nc).ownBlock = some b → b < q
theorem Nv.cell {B q : Nat} {na : Option Addr} {nc M i j : Nat} {w : World} (h : Nv B q na nc M i w) (hj : j < M) : ∃ p cs, na = some ⟨p, 0, none⟩ ∧ w.heap[p]? = some (.cells cs 56 (0, 0)) ∧ (B ≤ p ∧ p < q) ∧ (∃ x y, w.cell? ⟨p, j * 2, none⟩ = some x ∧ w.cell? ⟨p, j * 2 + 1, none⟩ = some y) ∧ w.frozen? ⟨p, j * 2, none⟩ = false ∧ w.frozen? ⟨p, j * 2 + 1, none⟩ = false := by
  obtain ⟨⟨xs, ho, hx⟩, hi⟩ := h
  have ho' := ho
  rcases ho'.2 with ⟨_, h0⟩ | ⟨p, c, cur, e, hB, hg, hle, _, hs, _⟩
  · omega
  · injection e with e1 _ _
    subst e1
    have hcs : j * 2 + 1 < cur.size := by rw [hs]; omega
    refine ⟨p, cur, rfl, hg, ⟨hB, hi p rfl⟩, ⟨cur[j * 2], cur[j * 2 + 1], ?_, ?_⟩, by simp [World.frozen?, hg], by simp [World.frozen?, hg]⟩
    · rw [cell_of_row w p _ _ _ _ hg]
      exact Array.getElem?_eq_getElem (by omega)
    · rw [cell_of_row w p _ _ _ _ hg]
      exact Array.getElem?_eq_getElem (by omega)
theorem Nv.set {B q : Nat} {p nc M i : Nat} {w : World} (h : Nv B q (some ⟨p, 0, none⟩) nc M i w) (hi : i < M) (y : Value) : Nv B q (some ⟨p, 0, none⟩) nc M (i + 1) ((w.setCell ⟨p, i * 2, none⟩ (.string ovS)).setCell ⟨p, i * 2 + 1, none⟩ y) := by
  obtain ⟨⟨xs, ho, hx⟩, hh⟩ := h
  have hl : xs.length = M * 2 := ho.1
  refine ⟨⟨(xs.set (i * 2) (.string ovS)).set (i * 2 + 1) y, own_setZ (own_setZ ho _) _, fun j hj => ?_⟩, hh⟩
  rw [List.getElem?_set_ne (by omega)]
  by_cases e : i = j
  · subst e
    rw [List.getElem?_set_self (by omega)]
  · rw [List.getElem?_set_ne (by omega)]
    exact hx j (by omega)
theorem set_oth {w : World} {p i j : Nat} {x y : Value} : Oth w ((w.setCell ⟨p, i, none⟩ x).setCell ⟨p, j, none⟩ y) (some p) :=
  ⟨rfl, rfl, rfl, by simp, fun k _ hn => by
    have h : k ≠ p := fun e => hn (by rw [e])
    rw [Below.heap_setCell _ _ _ _ h, Below.heap_setCell _ _ _ _ h]⟩
theorem nv_rnm {w : World} {B : Nat} {mo : Option Addr} {mc : Nat} {ms : List (ByteArray × Int)} (h : w.ownsRow B 56 2 (.slice mo ms.length mc) ms.length (mcells ms)) : Rnm w (.slice mo ms.length mc) ms := by
  refine ⟨mo, mc, rfl, fun j hj => ?_⟩
  obtain ⟨b, e, c0, c1⟩ := nmd_cell h hj
  exact ⟨b, 0, e, by rw [Nat.zero_add]; exact c0, by rw [Nat.zero_add]; exact c1⟩
end Go.Proofs.Ytncileojdighnaa
