/- Join of package graph: rows of graphs, what it answers, its function literal. -/
import Derived.Test.YtjenkpgoggmboaaGrTrim3
import Derived.Test.YtjenkpgoggmboaaGrReach3
import Derived.Test.YtjenkpgoggmboaaBAZ
import Derived.Test.YtjenkpgoggmboaaSEZ
import Derived.BigQuiet
namespace Go.Proofs.Ytjenkpgoggmboaa
open Go.RowKit

/-- A slice tells these graphs. -/
def Rg (w : World) (v : Value) (gs : List Gf) : Prop :=
  ∃ ao c, v = .slice ao gs.length c ∧ ∀ j, j < gs.length → ∃ b o nv rv, ao = some ⟨b, o, none⟩ ∧ w.cell? ⟨b, o + j * 2, none⟩ = some nv ∧ w.cell? ⟨b, o + j * 2 + 1, none⟩ = some rv ∧ Gr w nv rv (gs.getD j gf0)
theorem Rg.below {w w' : World} {v : Value} {gs : List Gf} (h : Rg w v gs) (hb : Below w.heap.size w w') : Rg w' v gs := by
  obtain ⟨ao, c, rfl, h⟩ := h
  refine ⟨ao, c, rfl, fun j hj => ?_⟩
  obtain ⟨b, o, nv, rv, hao, h0, h1, hg⟩ := h j hj
  exact ⟨b, o, nv, rv, hao, by rw [hb.cell (p := ⟨b, o + j * 2, none⟩) (lt_of_cell h0)]; exact h0, by rw [hb.cell (p := ⟨b, o + j * 2 + 1, none⟩) (lt_of_cell h1)]; exact h1, hg.below hb⟩
/-- Is a graph not good? -/
def badG (g : Gf) : Bool := !decide (one (chk g) = [])
/-- How many nodes, how many roots graphs have together. -/
def totN (gs : List Gf) : Nat := (gs.map (fun g => g.nodes.length)).sum
def totR (gs : List Gf) : Nat := (gs.map (fun g => g.roots.length)).sum
/-- One graph more. -/
def joinS (acc g : Gf) : Gf := ⟨acc.nodes ++ g.nodes.map (renum (fun x => (acc.nodes.length : Int) + x)), acc.roots ++ g.roots.map (fun x => (acc.nodes.length : Int) + x)⟩
/-- Graphs beside one another. -/
def joinG (gs : List Gf) : Gf := gs.foldl joinS ⟨[], []⟩
/-- Join's faults. -/
def joinC (gs : List Gf) : Fs :=
  if 0 ≤ ixOf badG gs then [(44, ixOf badG gs), chk (gs.getD (ixOf badG gs).toNat gf0)]
  else if 4096 < totN gs then [(41, (totN gs : Int))]
  else if 4096 < totR gs then [(42, (totR gs : Int))]
  else []
theorem gtake_snoc {l : List Gf} {k : Nat} (h : k < l.length) : l.take (k + 1) = l.take k ++ [l.getD k gf0] := by
  rw [List.take_succ_eq_append_getElem h]
  simp [List.getD, h]
theorem jtake_snoc {l : List Nd} {k : Nat} (h : k < l.length) : l.take (k + 1) = l.take k ++ [l.getD k nd0] := by
  rw [List.take_succ_eq_append_getElem h]
  simp [List.getD, h]
theorem tot_snoc (l : List Gf) (g : Gf) : totN (l ++ [g]) = totN l + g.nodes.length ∧ totR (l ++ [g]) = totR l + g.roots.length := by simp [totN, totR]
theorem tot_take : ∀ (l : List Gf) (k : Nat), totN (l.take k) ≤ totN l ∧ totR (l.take k) ≤ totR l
  | [], k => by simp [totN, totR]
  | g :: r, 0 => by simp [totN, totR]
  | g :: r, k + 1 => by
    have := tot_take r k
    simp only [totN, totR, List.take_succ_cons, List.map_cons, List.sum_cons] at this ⊢
    omega
theorem joinG_len : ∀ (gs : List Gf) (acc : Gf), (gs.foldl joinS acc).nodes.length = acc.nodes.length + totN gs ∧ (gs.foldl joinS acc).roots.length = acc.roots.length + totR gs
  | [], acc => by simp [totN, totR]
  | g :: r, acc => by
    have h1 := joinG_len r (joinS acc g)
    have h2 : (joinS acc g).nodes.length = acc.nodes.length + g.nodes.length := by simp [joinS]
    have h3 : (joinS acc g).roots.length = acc.roots.length + g.roots.length := by simp [joinS]
    rw [List.foldl_cons]
    rw [h2, h3] at h1
    have h4 : totN (g :: r) = g.nodes.length + totN r := by simp [totN]
    have h5 : totR (g :: r) = g.roots.length + totR r := by simp [totR]
    omega
set_option maxRecDepth 100000 in
set_option maxHeartbeats 400000 in
theorem numbered_nil {W : World} (fv : Value) (ao : Option Addr) (c : Nat) :
    Calls Try.prog 85 #[.slice ao 0 c, fv] W fun e w' => e = .returned (.slice none 0 0) ∧ w' = W := by
  go_enter Try.func85, Try.ntmps85
  go_wp2
  refine wp_loop_rounds 1 ?_
  rw [rounds_succ]
  go_wp2
  go_ret
  exact ⟨rfl, rfl⟩
theorem mem_blocks_tail {nv : Value} {avs : List Value} {k : Nat} (h : k ∈ blocks avs) : k ∈ blocks (nv :: avs) := by
  obtain ⟨v, hv, e⟩ := List.mem_filterMap.1 h
  exact List.mem_filterMap.2 ⟨v, by simp [hv], e⟩
/-- A node more in a graph of its own. -/
theorem Og.push {w w1 w2 : World} {B : Nat} {nv rv : Value} {avs : List Value} {acc : Gf} {n : Nd} {ao : Option Addr} {c g cap : Nat} (h : Og w B nv rv avs acc) (hb : Below w.heap.size w w1)
    (ha : w1.ownsRow w.heap.size 3 1 (.slice ao n.args.length c) n.args.length (n.args.map (Value.int .i64))) (hB : B ≤ w.heap.size)
    (hg : w1.grownBy w2 nv.ownBlock) (hown : w2.ownsRow B 65 4 (.slice (some ⟨g, 0, none⟩) (acc.nodes.length + 1) cap) (acc.nodes.length + 1) (ncells acc.nodes avs ++ [.int .i64 n.kind, .string n.name, .int .i64 n.num, .slice ao n.args.length c]))
    (hat : nv.ownBlock = some g ∨ w1.heap.size ≤ g) : Og w2 B (.slice (some ⟨g, 0, none⟩) (acc.nodes.length + 1) cap) rv (avs ++ [.slice ao n.args.length c]) ⟨acc.nodes ++ [n], acc.roots⟩ := by
  obtain ⟨ro, rc, rfl, hr⟩ := h.r
  have hz := hb.size
  have hnvr : ∀ k, Value.ownBlock (.slice ro acc.roots.length rc) = some k → nv.ownBlock ≠ some k := fun k e e' => h.ap k e (List.mem_filterMap.2 ⟨nv, by simp, e'⟩)
  refine ⟨h.on.push hb ha hB hg hown hat, ⟨some ⟨g, 0, none⟩, cap, by simp⟩, ⟨ro, rc, rfl, own_block (own_below hr hb) (fun k e => hg.block k (by have := (hr.lt k e).2; omega) (fun e' => hnvr k e e'.symm))⟩, fun k e hk => ?_⟩
  have hkl := (hr.lt k e).2
  have hcons : blocks (.slice (some ⟨g, 0, none⟩) (acc.nodes.length + 1) cap :: (avs ++ [.slice ao n.args.length c])) = g :: (blocks avs ++ blocks [.slice ao n.args.length c]) := by simp [blocks, Value.ownBlock]
  rw [hcons] at hk
  rcases List.mem_cons.1 hk with e1 | hk
  · subst e1
    rcases hat with e2 | e2
    · exact hnvr k e e2
    · omega
  · rcases List.mem_append.1 hk with hk | hk
    · exact h.ap k e (mem_blocks_tail hk)
    · obtain ⟨v, hv, e3⟩ := List.mem_filterMap.1 hk
      simp at hv
      subst hv
      have := (ha.lt k e3).1
      omega
/-- Roots more in a graph of its own. -/
theorem Og.roots {w w1 w2 : World} {B : Nat} {nv rv : Value} {avs : List Value} {acc : Gf} {l : List Int} {g cap m : Nat} (h : Og w B nv rv avs acc) (hb : Below w.heap.size w w1) (hm : l.length = m)
    (hg : w1.grownBy w2 rv.ownBlock) (hown : w2.ownsRow B 3 1 (.slice (some ⟨g, 0, none⟩) (acc.roots.length + m) cap) (acc.roots.length + m) (acc.roots.map (Value.int .i64) ++ l.map (Value.int .i64)))
    (hat : rv.ownBlock = some g ∨ w1.heap.size ≤ g) : Og w2 B nv (.slice (some ⟨g, 0, none⟩) (acc.roots.length + m) cap) avs ⟨acc.nodes, acc.roots ++ l⟩ := by
  subst hm
  have hz := hb.size
  refine ⟨(h.on.below hb).keep (fun k hk => hg.block k (by have := (h.on.lt k hk).2; omega) (fun e => h.ap k e.symm hk)), h.nsl, ⟨some ⟨g, 0, none⟩, cap, by simp, by simpa using hown⟩, fun k e hk => ?_⟩
  have e' : g = k := by simpa [Value.ownBlock] using e
  subst e'
  rcases hat with e2 | e2
  · exact h.ap g e2 hk
  · have := (h.on.lt g hk).2
    omega
theorem Og.keep {w w' : World} {B : Nat} {nv rv : Value} {avs : List Value} {g : Gf} (h : Og w B nv rv avs g) (hb : ∀ k, B ≤ k → k < w.heap.size → w'.heap[k]? = w.heap[k]?) : Og w' B nv rv avs g := by
  obtain ⟨ro, rc, rfl, hr⟩ := h.r
  exact ⟨h.on.keep (fun k hk => hb k (h.on.lt k hk).1 (h.on.lt k hk).2), h.nsl, ⟨ro, rc, rfl, own_block hr (fun k e => hb k (hr.lt k e).1 (hr.lt k e).2)⟩, h.ap⟩
theorem Og.below {w w' : World} {B : Nat} {nv rv : Value} {avs : List Value} {g : Gf} (h : Og w B nv rv avs g) (hb : Below w.heap.size w w') : Og w' B nv rv avs g := h.keep (fun k _ hk => hb.block k hk)
theorem Og.base {w : World} {B B' : Nat} {nv rv : Value} {avs : List Value} {g : Gf} (h : Og w B nv rv avs g) (hB : B' ≤ B) : Og w B' nv rv avs g := by
  obtain ⟨ro, rc, rfl, hr⟩ := h.r
  refine ⟨⟨own_base h.on.n hB, h.on.len, fun j hj => ?_, h.on.nd⟩, h.nsl, ⟨ro, rc, rfl, own_base hr hB⟩, h.ap⟩
  obtain ⟨aa, ac, e1, e2⟩ := h.on.a j hj
  exact ⟨aa, ac, e1, own_base e2 hB⟩
end Go.Proofs.Ytjenkpgoggmboaa

/- Join of package graph: its faults. -/
namespace Go.Proofs.Ytjenkpgoggmboaa
open Go.RowKit

theorem keepJ {w w' : World} {q : Nat} {o : Obj} (h : w.heap[q]? = some o) (hb : Below w.heap.size w w') : w'.heap[q]? = some o := by
  rw [hb.block q (lt_of_block h)]
  exact h
theorem tot_le : ∀ (l : List Gf), (∀ g ∈ l, Good g) → totN l ≤ 4096 * l.length ∧ totR l ≤ 4096 * l.length
  | [], _ => by simp [totN, totR]
  | g :: r, h => by
    have h1 := tot_le r (fun x hx => h x (by simp [hx]))
    have h2 := (h g (by simp)).nodes
    have h3 := (h g (by simp)).roots
    have h4 : totN (g :: r) = g.nodes.length + totN r := by simp [totN]
    have h5 : totR (g :: r) = g.roots.length + totR r := by simp [totR]
    simp only [List.length_cons]
    omega
theorem one_bad {g : Gf} (h : one (chk g) ≠ []) : one (chk g) = [chk g] := by
  unfold one at h ⊢
  split
  · rename_i h0
    rw [if_pos h0] at h
    exact absurd rfl h
  · rfl
/-- What Join answers where it refuses. -/
def JoinBad (W w' : World) (e : Ending) (fs : Fs) : Prop := (∃ b, e = .returned (.tuple #[.agg #[.slice none 0 0, .slice none 0 0], .iface 75 (.pointer (some ⟨b, 0, none⟩))]) ∧ Er w' (.iface 75 (.pointer (some ⟨b, 0, none⟩))) fs) ∧ Below W.heap.size W w'
/-- What Join answers where it joins. -/
def JoinGood (W w' : World) (e : Ending) (g : Gf) : Prop := (∃ nv rv avs, e = .returned (.tuple #[.agg #[nv, rv], .nilIface]) ∧ Og w' W.heap.size nv rv avs g) ∧ Below W.heap.size W w'
/-- The graph so far, in the variable that lies at block w3.heap.size. -/
structure J (w3 w : World) (acc : Gf) (ao : Option Addr) (c : Nat) (ro : Option Addr) (rc : Nat) (avs : List Value) : Prop where
  b : Below w3.heap.size w3 w
  out : w.heap[w3.heap.size]? = some (.cells #[.slice ao acc.nodes.length c, .slice ro acc.roots.length rc] 25 (0, 0))
  og : Og w (w3.heap.size + 1) (.slice ao acc.nodes.length c) (.slice ro acc.roots.length rc) avs acc
theorem J.below {w3 w w' : World} {acc : Gf} {ao ro : Option Addr} {c rc : Nat} {avs : List Value} (h : J w3 w acc ao c ro rc avs) (hb : Below w.heap.size w w') : J w3 w' acc ao c ro rc avs :=
  ⟨Below.next h.b hb, keepJ h.out hb, h.og.below hb⟩
/-- One node more. -/
theorem J.push {w3 w w4 w5 : World} {acc : Gf} {n : Nd} {F : Int → Int} {ao aa ro : Option Addr} {c ac g cap rc nl : Nat} {avs : List Value} (hJ : J w3 w acc ao c ro rc avs) (hL : acc.nodes.length = nl) (hb : Below w.heap.size w w4)
    (ha : w4.ownsRow w.heap.size 3 1 (.slice aa n.args.length ac) n.args.length ((n.args.map F).map (Value.int .i64))) (o : Obj)
    (hg : (w4.alloc o).grownBy w5 (Value.ownBlock (.slice ao nl c))) (hown : w5.ownsRow (w3.heap.size + 1) 65 4 (.slice (some ⟨g, 0, none⟩) (nl + 1) cap) (nl + 1) (ncells acc.nodes avs ++ [.int .i64 n.kind, .string n.name, .int .i64 n.num, .slice aa n.args.length ac]))
    (hat : Value.ownBlock (.slice ao nl c) = some g ∨ g = w4.heap.size + 1) :
    J w3 (w5.setCell ⟨w3.heap.size, 0, none⟩ (.slice (some ⟨g, 0, none⟩) (nl + 1) cap)) ⟨acc.nodes ++ [renum F n], acc.roots⟩ (some ⟨g, 0, none⟩) cap ro rc (avs ++ [.slice aa n.args.length ac]) ∧
      (∀ a o', a < w.heap.size → a ≠ w3.heap.size → Value.ownBlock (.slice ao nl c) ≠ some a → w.heap[a]? = some o' → (w5.setCell ⟨w3.heap.size, 0, none⟩ (.slice (some ⟨g, 0, none⟩) (nl + 1) cap)).heap[a]? = some o') := by
  subst hL
  have hl : (renum F n).args.length = n.args.length := by simp [renum]
  have hz := lt_of_block hJ.out
  have hz4 := hb.size
  have hnv : ∀ k, Value.ownBlock (.slice ao acc.nodes.length c) = some k → w3.heap.size + 1 ≤ k := fun k e => (hJ.og.on.n.lt k e).1
  have hP : Og w5 (w3.heap.size + 1) (.slice (some ⟨g, 0, none⟩) (acc.nodes.length + 1) cap) (.slice ro acc.roots.length rc) (avs ++ [.slice aa n.args.length ac]) ⟨acc.nodes ++ [renum F n], acc.roots⟩ := by
    have hP := Og.push (n := renum F n) (ao := aa) (c := ac) (g := g) (cap := cap) hJ.og (hb.alloc hz4 o) (by rw [hl]; exact ha.alloc o) (by omega) hg (by rw [hl]; exact hown) (by
      rcases hat with e | e
      · exact Or.inl e
      · exact Or.inr (by simp; omega))
    rw [hl] at hP
    exact hP
  have hkeep : ∀ a o', a < w.heap.size → Value.ownBlock (.slice ao acc.nodes.length c) ≠ some a → w.heap[a]? = some o' → w5.heap[a]? = some o' := fun a o' h1 h2 h3 => by
    rw [hg.block a (by simp; omega) (fun e => h2 e.symm), Below.heap_alloc _ _ _ (by omega), hb.block a h1]
    exact h3
  have h5 := hkeep w3.heap.size _ hz (fun e => by have := hnv _ e; omega) hJ.out
  refine ⟨⟨?_, ?_, ?_⟩, fun a o' h1 h2 h3 h4 => ?_⟩
  · have h1 : Below w3.heap.size w3 (w4.alloc o) := (Below.next hJ.b hb).alloc (by have := hJ.b.size; omega) o
    exact (h1.grown hg (by simp; omega) (fun k e => by have := hnv k e; omega)).setCell (Nat.le_refl _) _
  · rw [blk2_set0 h5]
    simp
  · rw [List.length_append, List.length_singleton]
    exact hP.keep (fun k h1 _ => Below.heap_setCell _ _ _ _ (by show k ≠ w3.heap.size; omega))
  · rw [Below.heap_setCell _ _ _ _ h2]
    exact hkeep a o' h1 h3 h4
/-- Roots more. -/
theorem J.more {w3 w w4 w5 : World} {acc : Gf} {l : List Int} {ao ro : Option Addr} {c g cap rc rl : Nat} {avs : List Value} (hJ : J w3 w acc ao c ro rc avs) (hL : acc.roots.length = rl) (hb : Below w.heap.size w w4)
    (hg : w4.grownBy w5 (Value.ownBlock (.slice ro rl rc))) (hown : w5.ownsRow (w3.heap.size + 1) 3 1 (.slice (some ⟨g, 0, none⟩) (rl + l.length) cap) (rl + l.length) (acc.roots.map (Value.int .i64) ++ l.map (Value.int .i64)))
    (hat : Value.ownBlock (.slice ro rl rc) = some g ∨ g = w4.heap.size) :
    J w3 (w5.setCell ⟨w3.heap.size, 1, none⟩ (.slice (some ⟨g, 0, none⟩) (rl + l.length) cap)) ⟨acc.nodes, acc.roots ++ l⟩ ao c (some ⟨g, 0, none⟩) cap avs := by
  subst hL
  have hz := lt_of_block hJ.out
  have hz4 := hb.size
  obtain ⟨ro', rc', he, hr⟩ := hJ.og.r
  have hrv : ∀ k, Value.ownBlock (.slice ro acc.roots.length rc) = some k → w3.heap.size + 1 ≤ k := fun k e => by
    rw [he] at e
    exact (hr.lt k e).1
  have hP := hJ.og.roots (l := l) (g := g) (cap := cap) (m := l.length) hb rfl hg hown (by
    rcases hat with e | e
    · exact Or.inl e
    · exact Or.inr (by omega))
  have h5 : w5.heap[w3.heap.size]? = some (.cells #[.slice ao acc.nodes.length c, .slice ro acc.roots.length rc] 25) := by
    rw [hg.block _ (by omega) (fun e => by have := hrv _ e.symm; omega), hb.block _ hz]
    exact hJ.out
  refine ⟨?_, ?_, ?_⟩
  · exact ((Below.next hJ.b hb).grown hg (by have := hJ.b.size; omega) (fun k e => by have := hrv k e; omega)).setCell (Nat.le_refl _) _
  · rw [blk2_set1 h5]
    simp
  · have hP' := hP.keep (w' := w5.setCell ⟨w3.heap.size, 1, none⟩ (.slice (some ⟨g, 0, none⟩) (acc.roots.length + l.length) cap)) (fun k h1 _ => Below.heap_setCell _ _ _ _ (by show k ≠ w3.heap.size; omega))
    simpa using hP'
theorem row_some {w : World} {B : Nat} {ao : Option Addr} {n c : Nat} {xs : List Value} (h : w.ownsRow B 3 1 (.slice ao n c) n xs) (hn : 0 < n) : ∃ g, ao = some ⟨g, 0, none⟩ := by
  rcases h.2 with ⟨_, h0⟩ | ⟨g, cap, cur, hv, _⟩
  · omega
  · exact ⟨g, by injection hv⟩
theorem J.same {w3 w : World} {acc : Gf} {ao ro : Option Addr} {c rc : Nat} {avs : List Value} (h : J w3 w acc ao c ro rc avs) : J w3 (w.setCell ⟨w3.heap.size, 1, none⟩ (.slice ro acc.roots.length rc)).drew acc ao c ro rc avs := by
  have h2 : J w3 (w.setCell ⟨w3.heap.size, 1, none⟩ (.slice ro acc.roots.length rc)) acc ao c ro rc avs := ⟨h.b.setCell (Nat.le_refl _) _, blk2_set1 h.out, h.og.keep (fun k h2 _ => Below.heap_setCell _ _ _ _ (by show k ≠ w3.heap.size; omega))⟩
  exact h2.below (drew_below _)
theorem step_append_none {w : World} {ops : Array Oper} {o : Oper} {a : Act} {K : Act → World → Prop} {Q : Exit → Act → World → Prop} {E : Prop} (hgd : o.guard = none) (s x : Operand) (ho : o.op = .call { callee := .builtin .append, args := #[s, x], argTypes := #[23, 23] })
    {B n : Nat} {v : Value} {xs : List Value} (hs : a.eval s = v) {i : TypeInfo} (hi : Try.prog.info? 3 = some i) (hown : w.ownsRow B 3 1 v n xs) (hx : a.eval x = .slice none 0 0) (h : K (a.put o.dst v) w) :
    if Region.wanted o (yielded ops a.tmps) = true then Oper.wp Try.prog o a w K Q else E := by
  have hw : Region.wanted o (yielded ops a.tmps) = true := by simp [Region.wanted, hgd]
  rw [if_pos hw]
  have hrun := run_append_owned_none (P := Try.prog) (w := w) B 23 o.type 3 i 1 Try.underlying23 hi v n xs hown
  unfold Oper.wp
  simp [execOp, ho, resolve, invoke, builtin, hs, hx, hrun, Result.andThen]
  exact h
end Go.Proofs.Ytjenkpgoggmboaa

/- Two graphs beside one another, as plain mathematics. -/
namespace Go.Proofs.Ytjenkpgoggmboaa
open Go.RowKit

theorem renum_zero (n : Nd) : renum (fun x => ((([] : List Nd).length : Nat) : Int) + x) n = n := by
  obtain ⟨k, s, u, a⟩ := n
  have h : a.map (fun x => ((([] : List Nd).length : Nat) : Int) + x) = a := by
    have : a.map (fun x => ((([] : List Nd).length : Nat) : Int) + x) = a.map id := List.map_congr_left (fun x _ => by simp)
    rw [this, List.map_id]
  simp only [renum, h]
theorem joinS_nil (a : Gf) : joinS ⟨[], []⟩ a = a := by
  obtain ⟨ns, rs⟩ := a
  have h1 : ns.map (renum (fun x => ((([] : List Nd).length : Nat) : Int) + x)) = ns := by
    have : ns.map (renum (fun x => ((([] : List Nd).length : Nat) : Int) + x)) = ns.map id := List.map_congr_left (fun x _ => renum_zero x)
    rw [this, List.map_id]
  have h2 : rs.map (fun x => ((([] : List Nd).length : Nat) : Int) + x) = rs := by
    have : rs.map (fun x => ((([] : List Nd).length : Nat) : Int) + x) = rs.map id := List.map_congr_left (fun x _ => by simp)
    rw [this, List.map_id]
  unfold joinS
  dsimp only
  rw [h1, h2]
  rfl
theorem join_one (a : Gf) : joinG [a] = a := joinS_nil a
theorem join_two (a b : Gf) : joinG [a, b] = joinS a b := by
  show joinS (joinS ⟨[], []⟩ a) b = joinS a b
  rw [joinS_nil]
theorem strange_mono {N M : Nat} {x : Int} (h : strange N x = false) (hN : N ≤ M) : strange M x = false := by
  have := strange_no h
  simp [strange]
  omega
theorem goodNd_args {N M : Nat} {n n' : Nd} (h : goodNd N n = true) (hk : n'.kind = n.kind) (hs : n'.name = n.name) (hu : n'.num = n.num) (hl : n'.args.length = n.args.length) (ha : ∀ x ∈ n'.args, 0 ≤ x ∧ x < (M : Int)) : goodNd M n' = true := by
  have hst : n'.args.any (strange M) = false := by
    rw [List.any_eq_false]
    intro x hx
    have := ha x hx
    simp [strange]
    omega
  unfold goodNd at h ⊢
  rw [hk, hs, hu, hl, hst]
  split
  · rename_i hk1
    rw [if_pos hk1] at h
    exact h
  · rename_i hk1
    rw [if_neg hk1] at h
    split
    · rename_i hk2
      rw [if_pos hk2] at h
      exact h
    · rename_i hk2
      rw [if_neg hk2] at h
      split
      · rename_i hk3
        rw [if_pos hk3] at h
        exact h
      · rename_i hk3
        rw [if_neg hk3] at h
        split
        · rename_i hk4
          rw [if_pos hk4] at h
          simp only [Bool.and_eq_true] at h ⊢
          exact ⟨h.1, rfl⟩
        · rename_i hk4
          rw [if_neg hk4] at h
          exact h
section
variable {a b : Gf}
theorem joinS_nodes : (joinS a b).nodes = a.nodes ++ b.nodes.map (renum (fun x => (a.nodes.length : Int) + x)) := rfl
theorem joinS_len : (joinS a b).nodes.length = a.nodes.length + b.nodes.length := by simp [joinS]
theorem joinS_left {x : Int} (h0 : 0 ≤ x) (h1 : x < a.nodes.length) : (joinS a b).argsOf x = a.argsOf x := by
  have hx : x.toNat < a.nodes.length := by omega
  unfold Gf.argsOf
  rw [joinS_nodes]
  simp [List.getD, List.getElem?_append_left hx]
theorem joinS_right {x : Int} (h0 : (a.nodes.length : Int) ≤ x) (h1 : x < ((joinS a b).nodes.length : Int)) : ∀ y ∈ (joinS a b).argsOf x, ∃ z ∈ b.argsOf (x - a.nodes.length), y = (a.nodes.length : Int) + z := by
  rw [joinS_len] at h1
  have hx : x.toNat = a.nodes.length + (x - a.nodes.length).toNat := by omega
  have hx2 : (x - (a.nodes.length : Int)).toNat < b.nodes.length := by omega
  intro y hy
  unfold Gf.argsOf at hy ⊢
  rw [joinS_nodes, hx] at hy
  simp only [List.getD, List.getElem?_append_right (Nat.le_add_right _ _), Nat.add_sub_cancel_left, List.getElem?_map, List.getElem?_eq_getElem hx2, Option.map_some, Option.getD_some, renum] at hy ⊢
  obtain ⟨z, hz, rfl⟩ := List.mem_map.1 hy
  exact ⟨z, hz, rfl⟩
theorem joinS_good_nodes (ha : Good a) (hb : Good b) : ∀ n ∈ (joinS a b).nodes, goodNd (joinS a b).nodes.length n = true := fun n hn => by
  rw [joinS_len]
  rw [joinS_nodes] at hn
  rcases List.mem_append.1 hn with h | h
  · have hg := ha.node n h
    exact goodNd_args hg rfl rfl rfl rfl (fun x hx => by have := (good_args hg).1 x hx; omega)
  · obtain ⟨n0, h0, rfl⟩ := List.mem_map.1 h
    have hg := hb.node n0 h0
    refine goodNd_args hg rfl rfl rfl (by simp [renum]) (fun x hx => ?_)
    obtain ⟨z, hz, rfl⟩ := List.mem_map.1 hx
    have := (good_args hg).1 z hz
    omega
theorem left_good (ha : Good a) (hb : Good b) (hs : a.nodes.length + b.nodes.length ≤ 4096) : Good ⟨(joinS a b).nodes, a.roots⟩ :=
  ⟨by show (joinS a b).nodes.length ≤ 4096; rw [joinS_len]; exact hs, ha.roots, joinS_good_nodes ha hb, fun x hx => by
    have := ha.root x hx
    show 0 ≤ x ∧ x < ((joinS a b).nodes.length : Int)
    rw [joinS_len]
    omega⟩
theorem right_good (ha : Good a) (hb : Good b) (hs : a.nodes.length + b.nodes.length ≤ 4096) : Good ⟨(joinS a b).nodes, b.roots.map (fun x => (a.nodes.length : Int) + x)⟩ :=
  ⟨by show (joinS a b).nodes.length ≤ 4096; rw [joinS_len]; exact hs, by simpa using hb.roots, joinS_good_nodes ha hb, fun x hx => by
    obtain ⟨z, hz, rfl⟩ := List.mem_map.1 hx
    have := hb.root z hz
    show 0 ≤ (a.nodes.length : Int) + z ∧ (a.nodes.length : Int) + z < ((joinS a b).nodes.length : Int)
    rw [joinS_len]
    omega⟩
theorem join_good2 (ha : Good a) (hb : Good b) (hs : a.nodes.length + b.nodes.length ≤ 4096) (hr : a.roots.length + b.roots.length ≤ 4096) : Good (joinS a b) :=
  ⟨by rw [joinS_len]; exact hs, by simpa [joinS] using hr, joinS_good_nodes ha hb, fun x hx => by
    rcases List.mem_append.1 hx with h | h
    · exact (left_good ha hb hs).root x h
    · exact (right_good ha hb hs).root x h⟩
theorem left_met (ha : Good a) : ∀ x ∈ metF ⟨(joinS a b).nodes, a.roots⟩, 0 ≤ x ∧ x < (a.nodes.length : Int) :=
  meet_in (fun x => 0 ≤ x ∧ x < (a.nodes.length : Int)) (fun x hx y hy => by
    have e : (⟨(joinS a b).nodes, a.roots⟩ : Gf).argsOf x = (joinS a b).argsOf x := rfl
    rw [e, joinS_left hx.1 hx.2] at hy
    exact (ha.args hx.1 hx.2).1 y hy) _ _ _ ha.root (by simp)
theorem right_met (hb : Good b) : ∀ x ∈ metF ⟨(joinS a b).nodes, b.roots.map (fun x => (a.nodes.length : Int) + x)⟩, (a.nodes.length : Int) ≤ x ∧ x < ((joinS a b).nodes.length : Int) :=
  meet_in (fun x => (a.nodes.length : Int) ≤ x ∧ x < ((joinS a b).nodes.length : Int)) (fun x hx y hy => by
    have e : (⟨(joinS a b).nodes, b.roots.map (fun x => (a.nodes.length : Int) + x)⟩ : Gf).argsOf x = (joinS a b).argsOf x := rfl
    rw [e] at hy
    obtain ⟨z, hz, rfl⟩ := joinS_right hx.1 hx.2 y hy
    rw [joinS_len] at hx ⊢
    have := (hb.args (x := x - a.nodes.length) (by omega) (by omega)).1 z hz
    omega) _ _ _ (fun x hx => by
    obtain ⟨z, hz, rfl⟩ := List.mem_map.1 hx
    have := hb.root z hz
    rw [joinS_len]
    omega) (by simp)
theorem join_path (ha : Good a) : ∀ (path : List Int) (x : Int), 0 ≤ x → x < (a.nodes.length : Int) → goF (joinS a b) x path = goF a x path
  | [], _, _, _ => rfl
  | s :: r, x, h0, h1 => by
    have e := joinS_left (b := b) h0 h1
    simp only [goF, e]
    split
    · rfl
    · rename_i hs
      have hlt : s.toNat < (a.argsOf x).length := by omega
      have := (ha.args h0 h1).1 _ (getD_mem hlt)
      exact join_path ha r _ this.1 this.2
end
/-- Join of two small graphs refuses just where one of them is not good. -/
theorem joinC_two (a b : Gf) (h1 : a.nodes.length + b.nodes.length ≤ 4096) (h2 : a.roots.length + b.roots.length ≤ 4096) :
    (joinC [a, b] = [] ∧ Good a ∧ Good b) ∨ (joinC [a, b] ≠ [] ∧ (one (chk a) ≠ [] ∨ (one (chk a) = [] ∧ one (chk b) ≠ []))) := by
  have t1 : totN [a, b] = a.nodes.length + b.nodes.length := by simp [totN]
  have t2 : totR [a, b] = a.roots.length + b.roots.length := by simp [totR]
  by_cases ga : one (chk a) = []
  · by_cases gb : one (chk b) = []
    · refine Or.inl ⟨?_, chk_good ga, chk_good gb⟩
      have hx : ixOf badG [a, b] = -1 := by simp [ixOf, badG, ga, gb]
      unfold joinC
      rw [hx, if_neg (by omega), if_neg (by omega), if_neg (by omega)]
    · refine Or.inr ⟨?_, Or.inr ⟨ga, gb⟩⟩
      have hx : ixOf badG [a, b] = 1 := by simp [ixOf, badG, ga, gb]
      unfold joinC
      rw [hx, if_pos (by omega)]
      simp
  · refine Or.inr ⟨?_, Or.inl ga⟩
    have hx : ixOf badG [a, b] = 0 := by simp [ixOf, badG, ga]
    unfold joinC
    rw [hx, if_pos (by omega)]
    simp
end Go.Proofs.Ytjenkpgoggmboaa

/- Which nodes are variables. -/
namespace Go.Proofs.Ytjenkpgoggmboaa
open Go.RowKit

/-- Is it a variable? -/
def isVar (g : Gf) (x : Int) : Bool := decide ((g.nodes.getD x.toNat nd0).kind = 1)
theorem filter_snoc (p : Int → Bool) {l : List Int} {k : Nat} (h : k < l.length) : (l.take (k + 1)).filter p = if p (l.getD k 0) = true then (l.take k).filter p ++ [l.getD k 0] else (l.take k).filter p := by
  rw [take_snoc h, List.filter_append]
  generalize l.getD k 0 = x
  by_cases e : p x = true
  · rw [if_pos e, List.filter_cons_of_pos e]
    rfl
  · rw [if_neg e, List.filter_cons_of_neg e]
    simp
end Go.Proofs.Ytjenkpgoggmboaa

/- Copies, least graphs and trimmed graphs: what is alike to what, as plain mathematics. -/
namespace Go.Proofs.Ytjenkpgoggmboaa
open Go.RowKit

section
variable {g : Gf}
theorem two_left {x : Int} (hx : isN g x) : (joinS g g).nd x = g.nd x := by
  have h : x.toNat < g.nodes.length := by have := hx.1; have := hx.2; omega
  unfold Gf.nd
  rw [joinS_nodes]
  simp [List.getD, List.getElem?_append_left h]
theorem two_right {x : Int} (hx : isN g x) : (joinS g g).nd ((g.nodes.length : Int) + x) = renum (fun y => (g.nodes.length : Int) + y) (g.nd x) := by
  have h0 := hx.1
  have h : x.toNat < g.nodes.length := by have := hx.2; omega
  have e : ((g.nodes.length : Int) + x).toNat = g.nodes.length + x.toNat := by omega
  unfold Gf.nd
  rw [joinS_nodes, e]
  simp [List.getD, h]
theorem two_isN1 {x : Int} (hx : isN g x) : isN (joinS g g) x := ⟨hx.1, by rw [joinS_len]; have := hx.2; omega⟩
theorem two_isN2 {x : Int} (hx : isN g x) : isN (joinS g g) ((g.nodes.length : Int) + x) := ⟨by have := hx.1; omega, by rw [joinS_len]; have := hx.2; omega⟩
theorem two_arg1 {x : Int} (hx : isN g x) (k : Nat) : (joinS g g).arg x k = g.arg x k := by
  unfold Gf.arg
  rw [two_left hx]
theorem two_arg2 {x : Int} (hx : isN g x) {k : Nat} (hk : k < (g.nd x).args.length) : (joinS g g).arg ((g.nodes.length : Int) + x) k = (g.nodes.length : Int) + g.arg x k := by
  unfold Gf.arg
  rw [two_right hx]
  simp [renum, List.getD, hk]
/-- The graph with one root. -/
def rootAt (g : Gf) (i : Nat) : Gf := ⟨g.nodes, [(i : Int)]⟩
theorem rootAt_good (hg : Good g) {i : Nat} (hi : i < g.nodes.length) : Good (rootAt g i) :=
  ⟨hg.nodes, by simp [rootAt], hg.node, fun x hx => by
    have : x = (i : Int) := by simpa [rootAt] using hx
    subst this
    show 0 ≤ (i : Int) ∧ (i : Int) < (g.nodes.length : Int)
    omega⟩
theorem copy_al (hg : Good g) {i : Nat} (hi : i < g.nodes.length) : Al (joinS g g) (i : Int) ((g.nodes.length : Int) + (i : Int)) ↔ (metF (rootAt g i)).filter (isVar (rootAt g i)) = [] := by
  have ho := rootAt_good hg hi
  have hrng : ∀ x ∈ metF (rootAt g i), isN g x := fun x hx => (met_ok ho).rng x hx
  constructor
  · intro h
    have hall : ∀ x ∈ metF (rootAt g i), isN g x ∧ Al (joinS g g) x ((g.nodes.length : Int) + x) := by
      refine meet_in (fun x => isN g x ∧ Al (joinS g g) x ((g.nodes.length : Int) + x)) (fun x hx y hy => ?_) _ _ _ (fun x hx => ?_) (by simp)
      · obtain ⟨hn, hal⟩ := hx
        obtain ⟨k, hk, rfl⟩ := list_mem_getD hy
        have hk' : k < (g.nd x).args.length := hk
        have ha := (al_sim _ _ _ hal).2.2.2 k (by rw [two_left hn]; exact hk')
        rw [two_arg1 hn, two_arg2 hn hk'] at ha
        exact ⟨arg_isN hg hn hk', ha⟩
      · have e : x = (i : Int) := by simpa [rootAt] using hx
        subst e
        exact ⟨⟨by omega, by omega⟩, h⟩
    rw [List.filter_eq_nil_iff]
    intro x hx hv
    obtain ⟨hn, hal⟩ := hall x hx
    have hl := (al_sim _ _ _ hal).2.2.1
    have hk : ((joinS g g).nd x).kind = 1 := by
      rw [two_left hn]
      simpa [isVar, rootAt, Gf.nd] using hv
    have := hl.2.2.2.2 hk
    omega
  · intro h
    rw [List.filter_eq_nil_iff] at h
    refine ⟨fun x y => x ∈ metF (rootAt g i) ∧ y = (g.nodes.length : Int) + x, fun x y hxy => ?_, met_root ho _ (by simp [rootAt]), rfl⟩
    obtain ⟨hx, rfl⟩ := hxy
    have hn := hrng x hx
    refine ⟨two_isN1 hn, two_isN2 hn, ?_, fun k hk => ?_⟩
    · unfold labE
      rw [two_left hn, two_right hn]
      refine ⟨rfl, rfl, rfl, by simp [renum], fun e => ?_⟩
      have := h x hx
      exact absurd (by simpa [isVar, rootAt, Gf.nd] using e) this
    · rw [two_left hn] at hk
      rw [two_arg1 hn, two_arg2 hn hk]
      exact ⟨met_arg ho x hx _ (getD_mem hk), rfl⟩
/-- Each node of the least graph is the number of a node that is met. -/
theorem least_sur (hg : Good g) {e : Nat → Nat → Bool} (hd : ∀ x y : Nat, (e x y = true ↔ Al g (x : Int) (y : Int))) {u : Int} (hu : isN (trimF (quoF e g)) u) : ∃ x ∈ metF g, lstI e g x = u := by
  have hq := quo_good hg (al_eqv hg hd)
  have hl := trim_len hq
  have h0 := hu.1
  have h1 := hu.2
  rw [hl] at h1
  have hc : ∀ c ∈ metF (quoF e g), ∃ x, x ∈ metF g ∧ clsI e g.nodes.length x = c := by
    refine meet_in (fun c => ∃ x, x ∈ metF g ∧ clsI e g.nodes.length x = c) (fun c hx y hy => ?_) _ _ _ (fun c hx => ?_) (by simp)
    · obtain ⟨x, hx, rfl⟩ := hx
      have hn : isN g x := (met_ok hg).rng x hx
      have hy' : y ∈ ((quoF e g).nd (clsI e g.nodes.length x)).args := hy
      rw [quo_nd hg hd hn] at hy'
      obtain ⟨z, hz, rfl⟩ := List.mem_map.1 hy'
      exact ⟨z, met_arg hg x hx z hz, rfl⟩
    · obtain ⟨z, hz, rfl⟩ := List.mem_map.1 hx
      exact ⟨z, met_root hg z hz, rfl⟩
  have hm : u.toNat < (metF (quoF e g)).length := by omega
  obtain ⟨x, hx, ex⟩ := hc _ (getD_mem hm)
  refine ⟨x, hx, ?_⟩
  unfold lstI
  rw [ex]
  unfold posF
  rw [if_pos (getD_mem hm), pos_of_getD (met_ok hq).nodup hm]
  omega
theorem least_pair (hg : Good g) {e : Nat → Nat → Bool} (hd : ∀ x y : Nat, (e x y = true ↔ Al g (x : Int) (y : Int))) : Pr (trimF (quoF e g)) g (fun u x => x ∈ metF g ∧ u = lstI e g x) := by
  refine ⟨fun u x ⟨hx, hu⟩ => ⟨by rw [hu]; exact least_rng hg hd hx, (met_ok hg).rng x hx⟩, fun u x ⟨hx, hu⟩ => ?_, fun u x ⟨hx, hu⟩ k hk => ?_, fun u x x' ⟨hx, hu⟩ ⟨hx', hu'⟩ hk => ?_, fun u u' x ⟨_, hu⟩ ⟨_, hu'⟩ _ => hu.trans hu'.symm, ?_, fun i hi => ?_⟩
  · subst hu
    rw [least_nd hg hd hx]
    exact ⟨rfl, rfl, rfl, by simp [renum]⟩
  · subst hu
    rw [least_nd hg hd hx] at hk
    have hk' : k < (g.nd x).args.length := by simpa [renum] using hk
    refine ⟨met_argk hg hx hk', ?_⟩
    unfold Gf.arg
    rw [least_nd hg hd hx]
    simp [renum, List.getD, hk']
  · subst hu
    have hal := (least_al hg hd hx hx').1 hu'
    rw [least_nd hg hd hx] at hk
    exact (al_sim g x x' hal).2.2.1.2.2.2.2 hk
  · rw [least_root]
    simp
  · rw [least_root] at hi ⊢
    have hi' : i < g.roots.length := by simpa using hi
    exact ⟨metF_root hg hi', by simp [List.getD, hi']⟩
theorem least_own (hg : Good g) {e : Nat → Nat → Bool} (hd : ∀ x y : Nat, (e x y = true ↔ Al g (x : Int) (y : Int))) {u v : Int} (h : Al (trimF (quoF e g)) u v) : u = v := by
  obtain ⟨hu, hv, _⟩ := al_sim _ _ _ h
  obtain ⟨x, hx, rfl⟩ := least_sur hg hd hu
  obtain ⟨y, hy, rfl⟩ := least_sur hg hd hv
  exact (least_al hg hd hx hy).2 ((least_pair hg hd).al ⟨hx, rfl⟩ ⟨hy, rfl⟩ h)
theorem trim_pair (hg : Good g) : Pr (trimF g) g (fun u x => x ∈ metF g ∧ u = posF (metF g) x) := by
  refine ⟨fun u x ⟨hx, hu⟩ => ⟨?_, (met_ok hg).rng x hx⟩, fun u x ⟨hx, hu⟩ => ?_, fun u x ⟨hx, hu⟩ k hk => ?_, fun u x x' ⟨hx, hu⟩ ⟨hx', hu'⟩ _ => pos_inj hg x hx x' hx' (hu.symm.trans hu'), fun u u' x ⟨_, hu⟩ ⟨_, hu'⟩ _ => hu.trans hu'.symm, by simp [trimF], fun i hi => ?_⟩
  · subst hu
    have := pos_rng hg x hx
    exact ⟨this.1, by rw [trim_len hg]; exact this.2⟩
  · subst hu
    have := trim_node hg x hx
    show ((trimF g).nodes.getD _ nd0).kind = _ ∧ ((trimF g).nodes.getD _ nd0).name = _ ∧ ((trimF g).nodes.getD _ nd0).num = _ ∧ ((trimF g).nodes.getD _ nd0).args.length = _
    rw [this]
    exact ⟨rfl, rfl, rfl, by simp [renum]; rfl⟩
  · subst hu
    have hnd : (trimF g).nd (posF (metF g) x) = renum (posF (metF g)) (g.nd x) := trim_node hg x hx
    rw [hnd] at hk
    have hk' : k < (g.nd x).args.length := by simpa [renum] using hk
    refine ⟨met_argk hg hx hk', ?_⟩
    unfold Gf.arg
    rw [hnd]
    simp [renum, List.getD, hk']
  · have hi' : i < g.roots.length := by simpa [trimF] using hi
    exact ⟨metF_root hg hi', by simp [trimF, List.getD, hi']⟩
end
theorem own_num {e : Nat → Nat → Bool} {N : Nat} (he : ∀ x y, x < N → y < N → e x y = true → x = y) : ∀ m, m ≤ N → csF e m = List.range m ∧ lsF e m = List.range m
  | 0, _ => ⟨rfl, rfl⟩
  | m + 1, hm => by
    obtain ⟨h1, h2⟩ := own_num he m (by omega)
    have hf : fnd (e m) (lsF e m) = m := by
      rw [h2, fnd_miss (fun x hx => ?_), List.length_range]
      have hx' := List.mem_range.1 hx
      cases h : e m x
      · rfl
      · have := he m x (by omega) (by omega) h
        omega
    rw [csF_succ, lsF_succ, hf, h1, h2, List.length_range, if_pos rfl, List.range_succ]
    exact ⟨rfl, rfl⟩
end Go.Proofs.Ytjenkpgoggmboaa

/- SolveGeneral: variables given nodes: plain data. -/
namespace Go.Proofs.Ytjenkpgoggmboaa
open Go.RowKit

/-- Is a node a variable that is given a node? -/
def stepV (ns : List Nd) (tos : List Int) (x : Nat) : Bool := decide ((ndN ns x).kind = 1) && decide (x < tos.length) && decide (0 ≤ tos.getD x 0) && decide (tos.getD x 0 < (ns.length : Int))
/-- Where a node leads in so many steps. -/
def plc (ns : List Nd) (tos : List Int) : Nat → Nat → Nat
  | 0, x => x
  | n + 1, x => if stepV ns tos x = true then plc ns tos n (tos.getD x 0).toNat else x
/-- Where a node leads. -/
def plF (ns : List Nd) (tos : List Int) (x : Nat) : Nat := plc ns tos (ns.length + 1) x
theorem stepV_iff {ns : List Nd} {tos : List Int} {x : Nat} : stepV ns tos x = true ↔ (ndN ns x).kind = 1 ∧ x < tos.length ∧ 0 ≤ tos.getD x 0 ∧ tos.getD x 0 < (ns.length : Int) := by
  simp only [stepV, Bool.and_eq_true, decide_eq_true_eq, and_assoc]
theorem plc_rng {ns : List Nd} {tos : List Int} : ∀ {n x : Nat}, x < ns.length → plc ns tos n x < ns.length
  | 0, _, h => h
  | n + 1, x, h => by
    unfold plc
    split
    · rename_i hs
      have := stepV_iff.1 hs
      exact plc_rng (by omega)
    · exact h
theorem plc_fix {ns : List Nd} {tos : List Int} {n x : Nat} (h : (ndN ns x).kind ≠ 1) : plc ns tos n x = x := by
  cases n with
  | zero => rfl
  | succ n =>
    unfold plc
    rw [if_neg (fun hs => h (stepV_iff.1 hs).1)]
theorem plF_rng {ns : List Nd} {tos : List Int} {x : Nat} (h : x < ns.length) : plF ns tos x < ns.length := plc_rng h
theorem plF_fix {ns : List Nd} {tos : List Int} {x : Nat} (h : (ndN ns x).kind ≠ 1) : plF ns tos x = x := plc_fix h
/-- The graph in which variables were given nodes. -/
def givenF (g : Gf) (tos : List Int) : Gf := ⟨(List.range g.nodes.length).map (fun i => renum (EI (plF g.nodes tos)) (ndN g.nodes (plF g.nodes tos i))), g.roots.map (EI (plF g.nodes tos))⟩
theorem given_len (g : Gf) (tos : List Int) : (givenF g tos).nodes.length = g.nodes.length := by simp [givenF]
theorem given_nd {g : Gf} {tos : List Int} {i : Nat} (h : i < g.nodes.length) : (givenF g tos).nd (i : Int) = renum (EI (plF g.nodes tos)) (ndN g.nodes (plF g.nodes tos i)) := by
  simp [givenF, Gf.nd, List.getD, h]
theorem given_good {g : Gf} (hg : Good g) (tos : List Int) : Good (givenF g tos) := by
  have hEI : ∀ z : Int, 0 ≤ z ∧ z < (g.nodes.length : Int) → 0 ≤ EI (plF g.nodes tos) z ∧ EI (plF g.nodes tos) z < (g.nodes.length : Int) := fun z hz => by
    have := plF_rng (tos := tos) (x := z.toNat) (ns := g.nodes) (by omega)
    unfold EI
    omega
  refine ⟨by rw [given_len]; exact hg.nodes, by simp [givenF]; exact hg.roots, fun n hn => ?_, fun z hz => ?_⟩
  · obtain ⟨i, hi, rfl⟩ := List.mem_map.1 hn
    rw [given_len]
    have hi' : i < g.nodes.length := by simpa using hi
    have hr := plF_rng (tos := tos) hi'
    have hgd : goodNd g.nodes.length (ndN g.nodes (plF g.nodes tos i)) = true := hg.node _ (by simp [ndN, List.getD, hr])
    exact renum_good hgd (fun z hz => hEI z ((good_args hgd).1 z hz))
  · obtain ⟨y, hy, rfl⟩ := List.mem_map.1 hz
    rw [given_len]
    exact hEI y (hg.root y hy)
section
variable {g : Gf} {tos : List Int}
theorem given_isN {x : Nat} (h : x < g.nodes.length) : isN (givenF g tos) (x : Int) := ⟨by omega, by rw [given_len]; omega⟩
theorem given_arg {x k : Nat} (h : x < g.nodes.length) (hk : (ndN g.nodes x).kind ≠ 1) (hkk : k < (ndN g.nodes x).args.length) : (givenF g tos).arg (x : Int) k = ((plF g.nodes tos (argN g.nodes x k) : Nat) : Int) := by
  unfold Gf.arg
  rw [given_nd h, plF_fix hk]
  exact map_getD hkk
/-- What leads tos no variable unfolds as that. -/
theorem pl_al (hg : Good g) {x : Nat} (h : x < g.nodes.length) (hk : (ndN g.nodes (plF g.nodes tos x)).kind ≠ 1) : Al (givenF g tos) (x : Int) ((plF g.nodes tos x : Nat) : Int) := by
  have hr := plF_rng (tos := tos) h
  have hh := given_good hg tos
  have e : (givenF g tos).nd (x : Int) = (givenF g tos).nd ((plF g.nodes tos x : Nat) : Int) := by rw [given_nd h, given_nd hr, plF_fix hk]
  have hkd : ((givenF g tos).nd (x : Int)).kind ≠ 1 := by rw [given_nd h]; exact hk
  refine ⟨fun a b => (a = b ∧ isN (givenF g tos) a) ∨ (a = (x : Int) ∧ b = ((plF g.nodes tos x : Nat) : Int)), fun a b hab => ?_, Or.inr ⟨rfl, rfl⟩⟩
  rcases hab with ⟨rfl, ha⟩ | ⟨rfl, rfl⟩
  · exact ⟨ha, ha, labE_refl _ _, fun k hk => Or.inl ⟨rfl, arg_isN hh ha hk⟩⟩
  · refine ⟨given_isN h, given_isN hr, ⟨by rw [e], by rw [e], by rw [e], by rw [e], fun e1 => absurd e1 hkd⟩, fun k hk2 => Or.inl ⟨?_, arg_isN hh (given_isN h) hk2⟩⟩
    unfold Gf.arg
    rw [e]
/-- Two nodes lead tos what unfolds alike. -/
def GvR (g : Gf) (tos : List Int) (x y : Nat) : Prop := x = y ∨ (x < g.nodes.length ∧ y < g.nodes.length ∧ Al (givenF g tos) ((plF g.nodes tos x : Nat) : Int) ((plF g.nodes tos y : Nat) : Int))
theorem gv_cg (hg : Good g) : Cg g.nodes (GvR g tos) := by
  have hA := goodA_of hg
  refine ⟨⟨fun _ => Or.inl rfl, fun x y h => ?_, fun x y z h k => ?_⟩, fun x y hx hy h hkx hky => ?_⟩
  · rcases h with rfl | ⟨h1, h2, h3⟩
    · exact Or.inl rfl
    · exact Or.inr ⟨h2, h1, al_symm h3⟩
  · rcases h with rfl | ⟨h1, h2, h3⟩
    · exact k
    · rcases k with rfl | ⟨_, k2, k3⟩
      · exact Or.inr ⟨h1, h2, h3⟩
      · exact Or.inr ⟨h1, k2, al_trans h3 k3⟩
  · rcases h with rfl | ⟨_, _, h3⟩
    · exact ⟨labS.refl _, fun _ _ => Or.inl rfl⟩
    · rw [plF_fix hkx, plF_fix hky] at h3
      obtain ⟨i1, i2, l, ar⟩ := al_sim _ _ _ h3
      unfold labE at l
      rw [given_nd hx, given_nd hy, plF_fix hkx, plF_fix hky] at l
      have l4 : (ndN g.nodes x).args.length = (ndN g.nodes y).args.length := by have := l.2.2.2.1; simpa [renum] using this
      refine ⟨⟨l.1, l.2.1, l.2.2.1, l4⟩, fun k hk => Or.inr ⟨(hA.arg x hx k hk).2, (hA.arg y hy k (by rw [← l4]; exact hk)).2, ?_⟩⟩
      have := ar k (by rw [given_nd hx, plF_fix hkx]; simpa [renum] using hk)
      rw [given_arg hx hkx hk, given_arg hy hky (by rw [← l4]; exact hk)] at this
      exact this
theorem gv_pair (hg : Good g) {x y : Nat} (hx : x < g.nodes.length) (hy : y < g.nodes.length) (h : Al (givenF g tos) (x : Int) (y : Int)) : GvR g tos x y := by
  have hl := (al_sim _ _ _ h).2.2.1
  have e1 : ((givenF g tos).nd (x : Int)).kind = (ndN g.nodes (plF g.nodes tos x)).kind := by rw [given_nd hx]; rfl
  have e2 : ((givenF g tos).nd (y : Int)).kind = (ndN g.nodes (plF g.nodes tos y)).kind := by rw [given_nd hy]; rfl
  by_cases hk : (ndN g.nodes (plF g.nodes tos x)).kind = 1
  · have := hl.2.2.2.2 (e1.trans hk)
    exact Or.inl (by omega)
  · have hk2 : (ndN g.nodes (plF g.nodes tos y)).kind ≠ 1 := fun e => hk (by rw [← e1, hl.1, e2, e])
    exact Or.inr ⟨hx, hy, al_trans (al_symm (pl_al hg hx hk)) (al_trans h (pl_al hg hy hk2))⟩
/-- What was given is an instance of what was made one. -/
theorem gv_ins (hg : Good g) {P : List (Nat × Nat)} {E : Nat → Nat} (hU : Un g.nodes P E []) (hP : ∀ p ∈ P, GvR g tos p.1 p.2) : Ins (gE g.nodes g.roots E) (givenF g tos) (fun x y => ∃ z : Nat, z < g.nodes.length ∧ x = ((E z : Nat) : Int) ∧ Al (givenF g tos) y ((plF g.nodes tos z : Nat) : Int)) := by
  have hA := goodA_of hg
  have hh := given_good hg tos
  have hmin := hU.done.2.2 _ (gv_cg (tos := tos) hg) hP
  have hgv : ∀ a b, a < g.nodes.length → E a = E b → b < g.nodes.length → Al (givenF g tos) ((plF g.nodes tos a : Nat) : Int) ((plF g.nodes tos b : Nat) : Int) := fun a b ha he hb => by
    rcases hmin a b he with rfl | ⟨_, _, h⟩
    · exact al_refl hh (given_isN (plF_rng ha))
    · exact h
  have hl : (gE g.nodes g.roots E).nodes.length = g.nodes.length := by simp [gE]
  have key : ∀ z, z < g.nodes.length → (ndN g.nodes (E z)).kind ≠ 1 → ∀ y, Al (givenF g tos) y ((plF g.nodes tos z : Nat) : Int) → Al (givenF g tos) y ((E z : Nat) : Int) := fun z hz hk y hy => by
    have h1 := hgv z (E z) hz (hU.idem z).symm (hU.rng z hz)
    rw [plF_fix hk] at h1
    exact al_trans hy h1
  refine ⟨fun x y ⟨z, hz, e, hy⟩ => ⟨?_, (al_sim _ _ _ hy).1⟩, fun x y ⟨z, hz, e, hy⟩ hk => ?_, fun x y ⟨z, hz, e, hy⟩ hk k hkk => ?_, fun x y y' ⟨z, hz, e, hy⟩ ⟨z', hz', e', hy'⟩ hk => ?_, by simp [gE, givenF], fun i hi => ?_⟩
  · have := hU.rng z hz
    subst e
    exact ⟨by omega, by rw [hl]; omega⟩
  · subst e
    have hr := hU.rng z hz
    rw [gE_nd hr] at hk ⊢
    have hk' : (ndN g.nodes (E z)).kind ≠ 1 := hk
    obtain ⟨_, _, l, _⟩ := al_sim _ _ _ (key z hz hk' y hy)
    unfold labE at l
    rw [given_nd hr, plF_fix hk'] at l
    exact ⟨l.1.symm, l.2.1.symm, l.2.2.1.symm, by have := l.2.2.2.1; simpa [renum] using this.symm⟩
  · subst e
    have hr := hU.rng z hz
    rw [gE_nd hr] at hk hkk
    have hk' : (ndN g.nodes (E z)).kind ≠ 1 := hk
    have hkk' : k < (ndN g.nodes (E z)).args.length := by simpa [renum] using hkk
    obtain ⟨_, _, l, ar⟩ := al_sim _ _ _ (key z hz hk' y hy)
    unfold labE at l
    rw [given_nd hr, plF_fix hk'] at l
    have a1 := ar k (by rw [l.2.2.2.1]; simpa [renum] using hkk')
    rw [given_arg hr hk' hkk'] at a1
    refine ⟨argN g.nodes (E z) k, (hA.arg _ hr k hkk').2, ?_, a1⟩
    unfold Gf.arg
    rw [gE_nd hr]
    exact map_getD hkk'
  · have he : E z = E z' := by omega
    exact al_trans hy (al_trans (hgv z z' hz he hz') (al_symm hy'))
  · have hi' : i < g.roots.length := by simpa [gE] using hi
    have hrt := hg.root _ (getD_mem hi')
    have e1 : (gE g.nodes g.roots E).roots.getD i 0 = EI E (g.roots.getD i 0) := map_getD hi'
    have e2 : (givenF g tos).roots.getD i 0 = EI (plF g.nodes tos) (g.roots.getD i 0) := map_getD hi'
    rw [e1, e2]
    exact ⟨(g.roots.getD i 0).toNat, by omega, rfl, al_refl hh (given_isN (plF_rng (by omega)))⟩
/-- What was given is an instance of the most general solution. -/
theorem gv_least (hg : Good g) {ps : List (Int × Int)} {t : Gf} (h : LeastS g ps t) (hP : ∀ p ∈ ps.map natP, GvR g tos p.1 p.2) : ∃ S, Ins t (givenF g tos) S := by
  obtain ⟨E, ee, hU, hd, rfl⟩ := h
  have h1 := gE_good hg hU.rng
  exact (pr_ins h1 (least_pair h1 hd)).trans (gv_ins hg hU hP)
theorem gv_sol (hg : Good g) {ps : List (Int × Int)} (hP : ∀ p ∈ ps.map natP, GvR g tos p.1 p.2) : ¬ NoSol g.nodes (ps.map natP) := fun h => h _ (gv_cg hg) hP
end
end Go.Proofs.Ytjenkpgoggmboaa

/- given of package tendrillaw10: what lies in memory. -/
namespace Go.Proofs.Ytjenkpgoggmboaa
open Go.RowKit

/-- The first values of a function, the rest nought. -/
def fJ (f : Nat → Nat) (N j : Nat) : List Nat := (List.range N).map (fun i => if i < j then f i else 0)
theorem fJ_len (f : Nat → Nat) (N j : Nat) : (fJ f N j).length = N := by simp [fJ]
theorem fJ_get {f : Nat → Nat} {N j i : Nat} (h : i < N) : (fJ f N j).getD i 0 = if i < j then f i else 0 := by simp [fJ, List.getD, h]
theorem fJ_zero (f : Nat → Nat) (N : Nat) : (ints (fJ f N 0)).map (Value.int .i64) = List.replicate N (.int .i64 0) := by
  apply List.ext_getElem
  · simp [ints, fJ]
  · intro i h1 h2
    simp [ints, fJ]
theorem fJ_step {f : Nat → Nat} {N j : Nat} : (fJ f N j).set j (f j) = fJ f N (j + 1) := by
  apply List.ext_getElem
  · simp [fJ]
  · intro i h1 h2
    by_cases e : j = i
    · subst e
      simp [fJ]
    · have h3 : i < N := by simpa [fJ] using h2
      rw [List.getElem_set_ne e]
      simp only [fJ, List.getElem_map, List.getElem_range]
      by_cases h4 : i < j
      · rw [if_pos h4, if_pos (by omega)]
      · rw [if_neg h4, if_neg (by omega)]
/-- The row of places. -/
structure Gv1 (W : World) (nv rv : Value) (pb N : Nat) (L : List Nat) (w : World) : Prop where
  s : Sb W nv rv w
  p : w.ownsRow (W.heap.size + 1 + 1) 3 1 (.slice (some ⟨pb, 0, none⟩) N N) N ((ints L).map (Value.int .i64))
  l : L.length = N
section
variable {W w w' : World} {nv rv : Value} {pb N : Nat} {L : List Nat}
theorem Gv1.next (h : Gv1 W nv rv pb N L w) (hb : Below w.heap.size w w') : Gv1 W nv rv pb N L w' := ⟨h.s.next hb, row_keep h.p (fun k hk => hb.block k (h.p.lt k hk).2), h.l⟩
theorem Gv1.lo (h : Gv1 W nv rv pb N L w) : W.heap.size + 1 + 1 ≤ pb ∧ pb < w.heap.size := h.p.lt pb rfl
theorem Gv1.cell (h : Gv1 W nv rv pb N L w) {i : Nat} (hi : i < N) : w.cell? ⟨pb, i, none⟩ = some (.int .i64 ((L.getD i 0 : Nat) : Int)) ∧ w.frozen? ⟨pb, i, none⟩ = false :=
  ⟨by rw [h.p.cellAt i (by omega)]; exact ints_at (by rw [h.l]; exact hi), h.p.frozenAt i⟩
theorem Gv1.set (h : Gv1 W nv rv pb N L w) (n v : Nat) : Gv1 W nv rv pb N (L.set n v) (w.setCell ⟨pb, n, none⟩ (.int .i64 (v : Int))) := by
  obtain ⟨h1, h2⟩ := h.lo
  refine ⟨⟨(Below.heap_setCell _ _ _ _ (by show W.heap.size ≠ pb; omega)).trans h.s.g, (Below.heap_setCell _ _ _ _ (by show W.heap.size + 1 ≠ pb; omega)).trans h.s.r, h.s.b.setCell (p := ⟨pb, n, none⟩) (by show W.heap.size ≤ pb; omega) _⟩, ?_, by simp [h.l]⟩
  have h3 := (World.ownsRow.stored h.p n (.int .i64 (v : Int))).1
  rw [ints_set] at h3
  exact h3
theorem Gv1.box (h : Gv1 W nv rv pb N L w) : (w.cell? ⟨W.heap.size, 0, none⟩ = some nv ∧ w.cell? ⟨W.heap.size, 1, none⟩ = some rv) ∧ W.heap.size < w.heap.size := by
  obtain ⟨a, _⟩ := blk2y h.s.g
  exact ⟨a, lt_of_block h.s.g⟩
end
theorem gv1_start {W w1 : World} {nv rv : Value} {N : Nat} (f : Nat → Nat) (hown : w1.ownsRow (W.heap.size + 1 + 1) 3 1 (.slice (some ⟨((W.alloc (.cells #[nv, rv] 25)).alloc grZ).heap.size, 0, none⟩) N N) N (madeCells (Value.int .i64 0).cells (N * 1)).toList) (hgrow : ((W.alloc (.cells #[nv, rv] 25)).alloc grZ).grownBy w1 none) : Gv1 W nv rv (W.heap.size + 1 + 1) N (fJ f N 0) w1 := by
  have hsz : ((W.alloc (.cells #[nv, rv] 25)).alloc grZ).heap.size = W.heap.size + 1 + 1 := by simp
  rw [hsz] at hown
  refine ⟨(Sb.new W nv rv).next ((Below.refl _ _).grown hgrow (Nat.le_refl _) (fun _ e => by cases e)), ?_, fJ_len _ _ _⟩
  rw [fJ_zero]
  rw [show (madeCells (Value.int .i64 0).cells (N * 1)).toList = List.replicate N (.int .i64 0) by rw [Nat.mul_one]; simp [Value.cells, toList_madeCells_one]] at hown
  exact hown
theorem Gv1.nd {W w : World} {na : Option Addr} {nc : Nat} {rv : Value} {pb N : Nat} {L : List Nat} {g : Gf} (h : Gv1 W (.slice na g.nodes.length nc) rv pb N L w) (hG : Gr W (.slice na g.nodes.length nc) rv g) {x : Nat} (hx : x < g.nodes.length) : ∃ b o aa ac, na = some ⟨b, o, none⟩ ∧ (w.cell? ⟨b, o + x * 4, none⟩ = some (.int .i64 (ndN g.nodes x).kind) ∧ w.cell? ⟨b, o + x * 4 + 1, none⟩ = some (.string (ndN g.nodes x).name) ∧ w.cell? ⟨b, o + x * 4 + 2, none⟩ = some (.int .i64 (ndN g.nodes x).num) ∧ w.cell? ⟨b, o + x * 4 + 3, none⟩ = some (.slice aa (ndN g.nodes x).args.length ac)) ∧ Ri W (.slice aa (ndN g.nodes x).args.length ac) (ndN g.nodes x).args := by
  obtain ⟨na', nc', e, hc⟩ := hG.1
  injection e with e1 _ _
  subst e1
  obtain ⟨b, o, av, rfl, h0⟩ := hc x hx
  obtain ⟨p0, p1, p2, p3, _⟩ := h0.below h.s.b
  obtain ⟨aa, ac, rfl, ha⟩ := h0.2.2.2.2
  exact ⟨b, o, aa, ac, rfl, ⟨p0, p1, p2, p3⟩, aa, ac, rfl, ha⟩
/-- Roots are laid: the rest stays. -/
theorem Gp.rooted {S : Nat} {w w' : World} {gb : Nat} {gv rv rv2 : Value} {avs : List Value} {nds : List Nd} {rts rts2 : List Int} (h : Gp S w gb gv rv avs nds rts) (hm : Mo (fun k => k = gb) w w') (hb : w'.heap[gb]? = some (.cells #[gv, rv2] 25)) (hr : w'.ownsRow S 3 1 rv2 rts2.length (rts2.map (Value.int .i64))) : Gp S w' gb gv rv2 avs nds rts2 := by
  have kr : ∀ {e : TypeId} {z : Nat} {v : Value} {n : Nat} {xs : List Value}, e ≠ 25 → w.ownsRow S e z v n xs → w'.ownsRow S e z v n xs := fun hne ho => row_keep ho (fun k hk => by
    obtain ⟨cur, hc⟩ := row_obj ho hk
    exact hm.block k (ho.lt k hk).2 (obj_ne hc h.box hne))
  refine ⟨h.lo, hb, kr (by decide) h.n, h.len, fun j hj => ?_, hr⟩
  obtain ⟨ao, c, e, ho⟩ := h.a j hj
  exact ⟨ao, c, e, kr (by decide) ho⟩
theorem Gv1.mo {W w w' : World} {nv rv : Value} {pb N q : Nat} {L : List Nat} (h : Gv1 W nv rv pb N L w) (hm : Mo (fun k => k = q) w w') (hq : pb < q) : Gv1 W nv rv pb N L w' := by
  obtain ⟨h1, h2⟩ := h.lo
  refine ⟨⟨(hm.block _ (lt_of_block h.s.g) (by omega)).trans h.s.g, (hm.block _ (lt_of_block h.s.r) (by omega)).trans h.s.r, h.s.b.trans (hm.below (fun k hk => by omega) h.s.b.size)⟩, row_keep h.p (fun k hk => ?_), h.l⟩
  have e : pb = k := by simpa [Value.ownBlock] using hk
  exact hm.block k (by omega) (by omega)
/-- Roots are laid, one more. -/
structure Gr5 (w3 : World) (ob : Nat) (nv rv : Value) (k : Nat) (xs : List Value) (wr : World) : Prop where
  m : Mo (fun q => q = ob) w3 wr
  b : wr.heap[ob]? = some (.cells #[nv, rv] 25)
  o : wr.ownsRow w3.heap.size 3 1 rv k xs
theorem Gr5.push {w3 wr w5 : World} {ob : Nat} {nv : Value} {ao : Option Addr} {k c gg cap : Nat} {y : Int} {xs : List Value} (h : Gr5 w3 ob nv (.slice ao k c) k xs wr) (hob : ob < w3.heap.size) (hown : w5.ownsRow w3.heap.size 3 1 (.slice (some ⟨gg, 0, none⟩) (k + 1) cap) (k + 1) (xs ++ [.int .i64 y])) (hg : (wr.alloc (.cells #[.int .i64 y] 3)).drew.grownBy w5 (Value.slice ao k c).ownBlock) :
    w5.heap[ob]? = some (.cells #[nv, .slice ao k c] 25) ∧ Gr5 w3 ob nv (.slice (some ⟨gg, 0, none⟩) (k + 1) cap) (k + 1) (xs ++ [.int .i64 y]) (w5.setCell ⟨ob, 1, none⟩ (.slice (some ⟨gg, 0, none⟩) (k + 1) cap)) := by
  have hs := h.m.size
  have hlo := fun q hq => (h.o.lt q hq).1
  have b5 : w5.heap[ob]? = some (.cells #[nv, .slice ao k c] 25) := by
    rw [hg.block ob (by simp; omega) (fun e => by have := hlo ob e.symm; omega)]
    exact (Below.heap_alloc _ _ _ (by omega)).trans h.b
  refine ⟨b5, ?_, ?_, ?_⟩
  · exact (((h.m.alloc _).drew).grown hg (fun q hq => Or.inr (hlo q hq))).setCell (p := ⟨ob, 1, none⟩) (Or.inl rfl) _
  · exact blk2_set1 b5
  · refine row_keep hown (fun q hq => Below.heap_setCell _ _ _ _ ?_)
    have := (hown.lt q hq).1
    show q ≠ ob
    omega
theorem cut_new (w : World) (o : Obj) : Below w.heap.size w (w.alloc o).drew ∧ (w.alloc o).drew.heap[w.heap.size]? = some o ∧ (w.alloc o).drew.heap.size = w.heap.size + 1 :=
  ⟨(below_alloc w o).drew, heap_alloc_new w o, by simp⟩
/-- The node's box gets its arguments: the graph that is built stays. -/
theorem giv_set {S gb : Nat} {w4 wk : World} {gv rv v : Value} {avs : List Value} {nds : List Nd} {rts : List Int} {n : Nat} {xs : List Value} (h : Gp S w4 gb gv rv avs nds rts) (hb : Below w4.heap.size w4 wk) (ho : wk.ownsRow (w4.heap.size + 1) 3 1 v n xs) : Gp S (wk.setCell ⟨w4.heap.size, 3, none⟩ v) gb gv rv avs nds rts ∧ (wk.setCell ⟨w4.heap.size, 3, none⟩ v).ownsRow S 3 1 v n xs ∧ Below S w4 (wk.setCell ⟨w4.heap.size, 3, none⟩ v) := by
  have hS : S ≤ w4.heap.size := by have := lt_of_block h.box; have := h.lo; omega
  refine ⟨h.keep (fun k h1 h2 => ?_), ?_, (hb.mono hS).setCell (p := ⟨w4.heap.size, 3, none⟩) hS _⟩
  · rw [Below.heap_setCell _ _ _ _ (by show k ≠ w4.heap.size; omega), hb.block k h2]
  · refine row_keep (own_base ho (by omega)) (fun k hk => Below.heap_setCell _ _ _ _ ?_)
    have := (ho.lt k hk).1
    show k ≠ w4.heap.size
    omega
theorem giv_push {S gb : Nat} {w w9 : World} {rv : Value} {ao : Option Addr} {j c : Nat} {avs : List Value} {nds : List Nd} {rts : List Int} {nd : Nd} {ao4 : Option Addr} {c4 g cap : Nat} {o : Obj} (h : Gp S w gb (.slice ao j c) rv avs nds rts) (hj : nds.length = j) (ha : w.ownsRow S 3 1 (.slice ao4 nd.args.length c4) nd.args.length (nd.args.map (Value.int .i64)))
    (hown : w9.ownsRow S 65 4 (.slice (some ⟨g, 0, none⟩) (j + 1) cap) (j + 1) (ncells nds avs ++ [.int .i64 nd.kind, .string nd.name, .int .i64 nd.num, .slice ao4 nd.args.length c4])) (hg : (w.alloc o).grownBy w9 (Value.slice ao j c).ownBlock) :
    (w9.cell? ⟨gb, 0, none⟩ = some (.slice ao j c) ∧ w9.frozen? ⟨gb, 0, none⟩ = false ∧ gb < w9.heap.size) ∧ (∃ avs', Gp S (w9.setCell ⟨gb, 0, none⟩ (.slice (some ⟨g, 0, none⟩) (j + 1) cap)) gb (.slice (some ⟨g, 0, none⟩) (j + 1) cap) rv avs' (nds ++ [nd]) rts) ∧ Below S w (w9.setCell ⟨gb, 0, none⟩ (.slice (some ⟨g, 0, none⟩) (j + 1) cap)) := by
  subst hj
  have hs6 := hg.size
  simp at hs6
  have hzb := lt_of_block h.box
  have hlo := h.lo
  have hnb : ∀ k, (Value.slice ao nds.length c).ownBlock = some k → S ≤ k ∧ k ≠ gb := fun k hk => by
    obtain ⟨cur, hc⟩ := row_obj h.n hk
    exact ⟨(h.n.lt k hk).1, obj_ne hc h.box (by decide)⟩
  have b6 : w9.heap[gb]? = some (.cells #[.slice ao nds.length c, rv] 25) := by
    rw [hg.block gb (by simp; omega) (fun e => (hnb gb e.symm).2 rfl), Below.heap_alloc _ _ _ hzb]
    exact h.box
  refine ⟨⟨by simp [World.cell?, b6], by simp [World.frozen?, b6], lt_of_block b6⟩, ⟨_, h.push ha hown hg⟩, ?_⟩
  exact (((Below.refl _ _).alloc (by omega) o).grown hg (by simp; omega) (fun k hk => (hnb k hk).1)).setCell (p := ⟨gb, 0, none⟩) hlo _
theorem take_map1 {α : Type} {l : List Int} {f : Int → α} {k : Nat} (h : k < l.length) : (l.map f).take (k + 1) = (l.map f).take k ++ [f (l.getD k 0)] := by
  rw [List.take_add_one]
  simp [List.getD, h]
end Go.Proofs.Ytjenkpgoggmboaa

/- given of package tendrillaw10, walked. -/
namespace Go.Proofs.Ytjenkpgoggmboaa
open Go.RowKit

set_option maxRecDepth 100000 in
set_option maxHeartbeats 16000000 in
theorem given_any {W : World} {nv rv tv : Value} {g : Gf} {tos : List Int} (hG : Gr W nv rv g) (hT : Ri W tv tos) (hg : Good g) :
    Calls Try.prog 26 #[.agg #[nv, rv], tv] W fun e w' => (∃ na nc ra rc, e = .returned (.agg #[.slice na g.nodes.length nc, .slice ra g.roots.length rc]) ∧ Gr w' (.slice na g.nodes.length nc) (.slice ra g.roots.length rc) (givenF g tos)) ∧ Below W.heap.size W w' := by
  obtain ⟨i0, hi, hz0, hz1, hz2⟩ := info_parts infoI
  obtain ⟨i1, hi1, hy0, hy1, hy2⟩ := info_parts infoN
  have HG := hid hG
  have HT := hid hT
  have HA := hid (goodA_of hg)
  have Hg := hid hg
  have hN : g.nodes.length ≤ 4096 := hg.nodes
  have hR : g.roots.length ≤ 4096 := hg.roots
  obtain ⟨na, nc, rfl, _⟩ := hG.1
  obtain ⟨ra, rc, rfl, _⟩ := hG.2
  obtain ⟨ta, tc, rfl, _⟩ := hT
  clear hG hg
  go_enter Try.func26, Try.ntmps26
  go_wp2_with (at_make; go_must (refine wpList_make_full _ rfl _ _ 23 rfl (W.heap.size + 1 + 1) 3 i0 (.int .i64 0) 1 Try.underlying23 hi hz0 hz1 .i64 .i64 _ _ g.nodes.length rfl rfl rfl rfl (by rw [hz2]; omega) (by unfold maxLen; omega) (by simp) ?_; intro w1 hown1 hgrow1; have hC0 := hid (gv1_start (plF g.nodes tos) hown1 hgrow1); obtain ⟨⟨b0, b1⟩, b2⟩ := hC0.out.box; clear hown1 hgrow1))
  clear b0 b1 b2
  go_loopw [24] (fun i wr => ∃ j : Nat, j ≤ g.nodes.length ∧ i = .int .i64 (j : Int) ∧ Hid (Gv1 W (.slice na g.nodes.length nc) (.slice ra g.roots.length rc) (W.heap.size + 1 + 1) g.nodes.length (fJ (plF g.nodes tos) g.nodes.length j) wr)) (fun i _ => g.nodes.length - (intOf i).toNat)
  case atStart => exact ⟨0, Nat.zero_le _, rfl, hC0⟩
  case round =>
    clear hC0
    obtain ⟨j, hj, rfl, hC⟩ := hrel
    by_cases hlt : j < g.nodes.length
    · have hji : (j : Int) < (g.nodes.length : Int) := by omega
      obtain ⟨⟨b0, b1⟩, b2⟩ := hC.out.box
      go_wp2
      obtain ⟨wo, rfl⟩ : ∃ wo : World, wo = wr := ⟨_, rfl⟩
      go_loopw [7, 8] (fun a n wr => ∃ (x k : Nat), x < g.nodes.length ∧ k ≤ g.nodes.length + 1 ∧ a = .int .i64 (x : Int) ∧ n = .int .i64 (k : Int) ∧ Hid (plc g.nodes tos (g.nodes.length + 1 - k) x = plF g.nodes tos j) ∧ Hid (Gv1 W (.slice na g.nodes.length nc) (.slice ra g.roots.length rc) (W.heap.size + 1 + 1) g.nodes.length (fJ (plF g.nodes tos) g.nodes.length j) wr)) (fun _ n _ => g.nodes.length + 1 - (intOf n).toNat)
      case atStart => exact ⟨j, 0, hlt, by omega, rfl, rfl, rfl, hC⟩
      case round =>
        clear hC b0 b1 b2
        obtain ⟨x, k, hx, hk, rfl, rfl, hpl, hC⟩ := hrel
        obtain ⟨⟨b0, b1⟩, b2⟩ := hC.out.box
        obtain ⟨nb, no, aa, ac, hna, ⟨n0, n1, n2, n3⟩, hna2⟩ := hC.out.nd HG.out hx
        subst hna
        have zn := lt_of_cell n0
        obtain ⟨d0, d1⟩ := hC.out.cell hlt
        have zd := lt_of_cell d0
        have hxi : (x : Int) < (g.nodes.length : Int) := by omega
        clear n1 n2 n3 hna2
        by_cases hs : k ≤ g.nodes.length ∧ stepV g.nodes tos x = true
        · obtain ⟨hk1, hs1⟩ := hs
          have hki : (k : Int) ≤ (g.nodes.length : Int) := by omega
          obtain ⟨s1, s2, s3, s4⟩ := stepV_iff.1 hs1
          rw [s1] at n0
          obtain ⟨tb, tf, hta, t0⟩ := (HT.out.below hC.out.s.b).at s2
          subst hta
          have zt := lt_of_cell t0
          have hpl2 : Hid (plc g.nodes tos (g.nodes.length + 1 - (k + 1)) (tos.getD x 0).toNat = plF g.nodes tos j) := by
            have h := hpl.out
            rw [show g.nodes.length + 1 - k = (g.nodes.length + 1 - (k + 1)) + 1 by omega] at h
            unfold plc at h
            rw [if_pos hs1] at h
            exact h
          generalize tos.getD x 0 = y at *
          obtain ⟨yn, rfl⟩ : ∃ yn : Nat, y = (yn : Int) := ⟨y.toNat, by omega⟩
          have hyn : Hid (yn < g.nodes.length) := show _ < _ by omega
          have s2i : (x : Int) < (tos.length : Int) := by omega
          rw [show ((yn : Int)).toNat = yn by omega] at hpl2
          clear hs1 s1 s2 hpl hk hx
          go_wp2
          go_quiet (fail)
          go_wp2
          go_roundw
          case rel => exact ⟨yn, k + 1, hyn.out, by omega, rfl, by go_num, hpl2, hid (hC.out.next (below_drewN (Below.refl _ _) _))⟩
          case measure => simp [intOf]; omega
        · have hxe : x = plF g.nodes tos j := by
            rw [← hpl.out]
            by_cases hk1 : k ≤ g.nodes.length
            · rw [show g.nodes.length + 1 - k = (g.nodes.length - k) + 1 by omega]
              unfold plc
              rw [if_neg (fun h => hs ⟨hk1, h⟩)]
            · rw [show g.nodes.length + 1 - k = 0 by omega]
              rfl
          have hset : Hid (∀ w', Below wr.heap.size wr w' → Gv1 W (.slice (some ⟨nb, no, none⟩) g.nodes.length nc) (.slice ra g.roots.length rc) (W.heap.size + 1 + 1) g.nodes.length (fJ (plF g.nodes tos) g.nodes.length (j + 1)) (w'.setCell ⟨W.heap.size + 1 + 1, j, none⟩ (.int .i64 (x : Int)))) := fun w' hb => by
            have h := (hC.out.next hb).set j x
            rw [hxe, fJ_step] at h
            rw [hxe]
            exact h
          have hs' : ¬ k ≤ g.nodes.length ∨ (k ≤ g.nodes.length ∧ ((ndN g.nodes x).kind == 1) = false) ∨ (k ≤ g.nodes.length ∧ (ndN g.nodes x).kind = 1 ∧ ¬ x < tos.length) ∨ (k ≤ g.nodes.length ∧ (ndN g.nodes x).kind = 1 ∧ x < tos.length ∧ ¬ 0 ≤ tos.getD x 0) ∨ (k ≤ g.nodes.length ∧ (ndN g.nodes x).kind = 1 ∧ x < tos.length ∧ 0 ≤ tos.getD x 0 ∧ ¬ tos.getD x 0 < (g.nodes.length : Int)) := by
            by_cases h1 : k ≤ g.nodes.length
            · by_cases h2 : (ndN g.nodes x).kind = 1
              · by_cases h3 : x < tos.length
                · by_cases h4 : 0 ≤ tos.getD x 0
                  · by_cases h5 : tos.getD x 0 < (g.nodes.length : Int)
                    · exact absurd ⟨h1, stepV_iff.2 ⟨h2, h3, h4, h5⟩⟩ hs
                    · exact Or.inr (Or.inr (Or.inr (Or.inr ⟨h1, h2, h3, h4, h5⟩)))
                  · exact Or.inr (Or.inr (Or.inr (Or.inl ⟨h1, h2, h3, h4⟩)))
                · exact Or.inr (Or.inr (Or.inl ⟨h1, h2, h3⟩))
              · exact Or.inr (Or.inl ⟨h1, by simpa using h2⟩)
            · exact Or.inl h1
          have Hxe := hid hxe
          clear hxe hs hpl
          rcases hs' with s1 | ⟨s1, s2⟩ | ⟨s1, s2, s3⟩ | ⟨s1, s2, s3, s4⟩ | ⟨s1, s2, s3, s4, s5⟩
          · have h1 : decide ((k : Int) ≤ (g.nodes.length : Int)) = false := decide_eq_false (by omega)
            go_wp2
            go_quiet (fail)
            go_wp2
            exact ⟨⟨j + 1, by omega, by go_num, hset.out _ (below_drewN (Below.refl _ _) _)⟩, by simp [intOf]; omega⟩
          · have h1 : decide ((k : Int) ≤ (g.nodes.length : Int)) = true := decide_eq_true (by omega)
            generalize (ndN g.nodes x).kind = kd at *
            go_wp2
            go_quiet (fail)
            go_wp2
            exact ⟨⟨j + 1, by omega, by go_num, hset.out _ (below_drewN (Below.refl _ _) _)⟩, by simp [intOf]; omega⟩
          · have h1 : decide ((k : Int) ≤ (g.nodes.length : Int)) = true := decide_eq_true (by omega)
            have h3 : decide ((x : Int) < (tos.length : Int)) = false := decide_eq_false (by omega)
            rw [s2] at n0
            go_wp2
            go_quiet (fail)
            go_wp2
            exact ⟨⟨j + 1, by omega, by go_num, hset.out _ (below_drewN (Below.refl _ _) _)⟩, by simp [intOf]; omega⟩
          · have h1 : decide ((k : Int) ≤ (g.nodes.length : Int)) = true := decide_eq_true (by omega)
            have h3 : decide ((x : Int) < (tos.length : Int)) = true := decide_eq_true (by omega)
            have h3' : (x : Int) < (tos.length : Int) := by omega
            rw [s2] at n0
            obtain ⟨tb, tf, hta, t0⟩ := (HT.out.below hC.out.s.b).at s3
            subst hta
            have zt := lt_of_cell t0
            generalize tos.getD x 0 = y at *
            have h4 : decide ((0 : Int) ≤ y) = false := decide_eq_false s4
            go_wp2
            go_quiet (fail)
            go_wp2
            exact ⟨⟨j + 1, by omega, by go_num, hset.out _ (below_drewN (Below.refl _ _) _)⟩, by simp [intOf]; omega⟩
          · have h1 : decide ((k : Int) ≤ (g.nodes.length : Int)) = true := decide_eq_true (by omega)
            have h3 : decide ((x : Int) < (tos.length : Int)) = true := decide_eq_true (by omega)
            have h3' : (x : Int) < (tos.length : Int) := by omega
            rw [s2] at n0
            obtain ⟨tb, tf, hta, t0⟩ := (HT.out.below hC.out.s.b).at s3
            subst hta
            have zt := lt_of_cell t0
            generalize tos.getD x 0 = y at *
            have h4 : decide ((0 : Int) ≤ y) = true := decide_eq_true s4
            have h5 : decide (y < (g.nodes.length : Int)) = false := decide_eq_false s5
            go_wp2
            go_quiet (fail)
            go_wp2
            exact ⟨⟨j + 1, by omega, by go_num, hset.out _ (below_drewN (Below.refl _ _) _)⟩, by simp [intOf]; omega⟩
    · obtain rfl : j = g.nodes.length := by omega
      obtain ⟨w2, rfl⟩ : ∃ w2 : World, w2 = wr := ⟨_, rfl⟩
      obtain ⟨⟨b0, b1⟩, b2⟩ := hC.out.box
      have hGp0 : Hid (Gp w2.heap.size (w2.alloc grZ) w2.heap.size (.slice none 0 0) (.slice none 0 0) [] ((givenF g tos).nodes.take 0) []) :=
        ⟨Nat.le_refl _, heap_alloc_new w2 _, World.ownsRow_nil _ _ _ _, rfl, fun _ h => absurd h (Nat.not_lt_zero _), World.ownsRow_nil _ _ _ _⟩
      have hbe0 := hid (below_alloc w2 grZ)
      go_wp2
      clear b0 b1 b2
      go_loopw [79] (fun i wr => ∃ (j : Nat) (ao : Option Addr) (c : Nat) (avs : List Value), j ≤ g.nodes.length ∧ i = .int .i64 (j : Int) ∧ Hid (Gp w2.heap.size wr w2.heap.size (.slice ao j c) (.slice none 0 0) avs ((givenF g tos).nodes.take j) []) ∧ Hid (Below w2.heap.size w2 wr)) (fun i _ => g.nodes.length - (intOf i).toNat)
      case atStart => exact ⟨0, none, 0, [], by omega, rfl, hGp0, hbe0⟩
      case round =>
        clear hGp0 hbe0 hlt hj
        obtain ⟨j, ao, c, avs, hj, rfl, hGp, hbe⟩ := hrel
        have hnds : ((givenF g tos).nodes.take j).length = j := by rw [List.length_take, given_len]; omega
        by_cases hlt : j < g.nodes.length
        · have hji : (j : Int) < (g.nodes.length : Int) := by omega
          have hCr := hid (hC.out.next hbe.out)
          obtain ⟨⟨b0, b1⟩, b2⟩ := hCr.out.box
          obtain ⟨d0, d1⟩ := hCr.out.cell hlt
          rw [fJ_get hlt, if_pos hlt] at d0
          have zd := lt_of_cell d0
          have hpr := plF_rng (tos := tos) hlt
          obtain ⟨nb, no, aa, ac, hna, ⟨n0, n1, n2, n3⟩, hra⟩ := hCr.out.nd HG.out hpr
          subst hna
          have zn := lt_of_cell n0
          have Hra := hid hra
          have hav := hid (fun k hk => HA.out.arg _ hpr k hk)
          have ha8 := HA.out.few (plF g.nodes tos j)
          have htj : Hid ((givenF g tos).nodes.take (j + 1) = (givenF g tos).nodes.take j ++ [renum (EI (plF g.nodes tos)) (ndN g.nodes (plF g.nodes tos j))]) := show _ = _ by
            rw [List.take_add_one]
            congr 1
            simp [givenF, hlt]
          generalize plF g.nodes tos j = P at *
          have hPi : (P : Int) < (g.nodes.length : Int) := by omega
          unfold argN at hav
          generalize ndN g.nodes P = nd at *
          obtain ⟨kd, nm, nu, args⟩ := nd
          dsimp only at n0 n1 n2 n3 ha8
          clear hra hpr d1
          go_wp2
          go_cut [11] from 82 to 89 (fun p wx => p = .pointer (some ⟨wr.heap.size, 0, none⟩) ∧ Hid (Below wr.heap.size wr wx ∧ wx.heap[wr.heap.size]? = some (.cells #[.int .i64 kd, .string nm, .int .i64 nu, .slice aa args.length ac] 65) ∧ wx.heap.size = wr.heap.size + 1))
          case first =>
            go_region_law (fail)
            all_goals go_wp2_with fail
            all_goals go_meet
            all_goals exact ⟨rfl, hid (cut_new wr _)⟩
          case rest =>
            obtain ⟨rfl, hwc⟩ := hcut
            obtain ⟨w4, rfl⟩ : ∃ w4 : World, w4 = wr := ⟨_, rfl⟩
            obtain ⟨w5, rfl⟩ : ∃ w5 : World, w5 = wc := ⟨_, rfl⟩
            obtain ⟨hb5, hx5, hs5⟩ := hwc.out
            have hC5 := hid (hCr.out.next hb5)
            have Hb5 := hid hb5
            have Hx5 := hid hx5
            have Hs5 := hid hs5
            obtain ⟨⟨x0, x1, x2, x3⟩, f0, f3⟩ := nblk hx5
            have zx := lt_of_block hx5
            have hlit := hid (World.ownsRow_lit (base := w5.heap.size) (e := 3) (size := 1) w5 #[] 0 (Nat.le_refl _) (by unfold maxLen; omega) (by simp))
            have hbl := hid (below_alloc w5 (.cells #[] 3))
            clear hwc hb5 hs5 hx5 b0 b1 b2 d0 zd n0 n1 n2 n3 zn
            go_wp2
            clear x0 x1 x2 x3 f0 f3 zx
            go_loopw [12, 94] (fun s i wr => ∃ (k : Nat) (ao4 : Option Addr) (c4 : Nat), k ≤ args.length ∧ i = .int .i64 (k : Int) ∧ s = .slice ao4 k c4 ∧ Hid (Below w5.heap.size w5 wr) ∧ Hid (wr.ownsRow w5.heap.size 3 1 (.slice ao4 k c4) k (((args.map (EI (plF g.nodes tos))).take k).map (Value.int .i64)))) (fun _ i _ => args.length - (intOf i).toNat)
            case atStart => exact ⟨0, _, _, Nat.zero_le _, rfl, rfl, hbl, hlit⟩
            case round =>
              clear hbl hlit
              obtain ⟨k, ao4, c4, hk, rfl, rfl, hbk, hok⟩ := hrel
              by_cases hkl : k < args.length
              · have hki : (k : Int) < (args.length : Int) := by omega
                have hCk := hid (hC5.out.next hbk.out)
                obtain ⟨ab, af, haa, a0⟩ := (Hra.out.below hCk.out.s.b).at hkl
                subst haa
                have za := lt_of_cell a0
                have hy := hav.out k hkl
                have htk := hid (take_map1 (f := EI (plF g.nodes tos)) hkl)
                generalize args.getD k 0 = y at *
                obtain ⟨yn, rfl⟩ : ∃ yn : Nat, y = (yn : Int) := ⟨y.toNat, by omega⟩
                have hyn : yn < g.nodes.length := by omega
                have hyi : (yn : Int) < (g.nodes.length : Int) := by omega
                obtain ⟨d0, d1⟩ := hCk.out.cell hyn
                rw [fJ_get hyn, if_pos hyn] at d0
                have zd := lt_of_cell d0
                have hei : Hid (EI (plF g.nodes tos) (yn : Int) = ((plF g.nodes tos yn : Nat) : Int)) := rfl
                rw [hei.out] at htk
                generalize plF g.nodes tos yn = Q at *
                have hzk := hbk.out.size
                have hO1 := World.ownsRow.alloc hok.out (.cells #[.int .i64 (Q : Int)] 3)
                have hlo : Hid (∀ q, (Value.slice ao4 k c4).ownBlock = some q → w5.heap.size ≤ q) := fun q hq => (hok.out.lt q hq).1
                clear hy hyn d1 hei hok
                go_wp2_with (at_builtin; go_must (refine wpList_append_lies _ rfl _ _ 23 rfl w5.heap.size 3 i0 (.int .i64 0) 1 8 Try.underlying23 hi hz0 hz1 hz2 rfl (by decide) _ k _ rfl hO1 ⟨wr.heap.size, 0, none⟩ 1 1 [.int .i64 (Q : Int)] rfl rfl (World.news_of_block (cs := #[.int .i64 (Q : Int)]) (t := 3) (fr := (0, 0)) (heap_alloc_new wr _)) (by simp [Value.oneCell']) (by decide) (by unfold maxLen; omega) (by omega) (by simp; omega) _ rfl ?_; intro g6 cap w6 hown6 hg6 hat6 hlt6))
                have hb6 : Hid (Below w5.heap.size w5 w6) := hbk.out.trans (((Below.refl _ _).alloc hzk _).grown hg6 (by simp; omega) (fun q hq => hlo.out q hq))
                go_roundw
                case rel => exact ⟨k + 1, some ⟨g6, 0, none⟩, cap, by omega, by go_num, rfl, hb6, (show World.ownsRow _ _ _ _ _ _ _ by rw [htk.out, List.map_append]; exact hown6)⟩
                case measure => simp [intOf]; omega
              · obtain rfl : k = args.length := by omega
                have hxk := (hbk.out.block _ (lt_of_block Hx5.out)).trans Hx5.out
                obtain ⟨⟨x0, x1, x2, x3⟩, f0, f3⟩ := nblk hxk
                have zx := lt_of_block hxk
                have hs5 := Hs5.out
                have hzk := hbk.out.size
                have hb4k := Hb5.out.trans (hbk.out.mono (by omega))
                have hok' := hok.out
                rw [List.take_of_length_le (by simp), hs5] at hok'
                obtain ⟨hGp8, hrow8, hbe8⟩ := giv_set hGp.out hb4k hok'
                have hbx := (hb4k.block _ (lt_of_block hGp.out.box)).trans hGp.out.box
                obtain ⟨⟨g0, g1⟩, g2, _⟩ := blk2y hbx
                have zg := lt_of_block hbx
                have zg4 := lt_of_block hGp.out.box
                have hon := World.ownsRow.alloc hGp8.n (.cells #[.int .i64 kd, .string nm, .int .i64 nu, .slice ao4 args.length c4] 65)
                rw [hnds] at hon
                have hpush : Hid (∀ (w9 : World) (g7 cap : Nat), w9.ownsRow w2.heap.size 65 4 (.slice (some ⟨g7, 0, none⟩) (j + 1) cap) (j + 1) (ncells ((givenF g tos).nodes.take j) avs ++ [.int .i64 kd, .string nm, .int .i64 nu, .slice ao4 args.length c4]) → ((wr.setCell ⟨w4.heap.size, 3, none⟩ (.slice ao4 args.length c4)).alloc (.cells #[.int .i64 kd, .string nm, .int .i64 nu, .slice ao4 args.length c4] 65)).grownBy w9 (Value.slice ao j c).ownBlock → _) := fun w9 g7 cap hown hgr => giv_push (nd := ⟨kd, nm, nu, args.map (EI (plF g.nodes tos))⟩) hGp8 hnds (by simpa using hrow8) (by simpa using hown) hgr
                have Hbe := hid (hbe.out.trans hbe8)
                have hne : w2.heap.size ≠ w4.heap.size := by omega
                clear hxk hok hok' hGp8 hrow8 hbe8 hbx hb4k
                go_wp2_with (at_builtin; go_must (refine wpList_append_lies _ rfl _ _ 22 rfl w2.heap.size 65 i1 (.agg #[.int .i64 0, .string ⟨#[]⟩, .int .i64 0, .slice none 0 0]) 4 56 Try.underlying22 hi1 hy0 hy1 hy2 rfl (by decide) _ j _ rfl hon ⟨wr.heap.size, 0, none⟩ 1 1 [.int .i64 kd, .string nm, .int .i64 nu, .slice ao4 args.length c4] rfl rfl (World.news_of_block (cs := #[.int .i64 kd, .string nm, .int .i64 nu, .slice ao4 args.length c4]) (t := 65) (fr := (0, 0)) (by have h9 := heap_alloc_new (wr.setCell ⟨w4.heap.size, 3, none⟩ (.slice ao4 args.length c4)) (.cells #[.int .i64 kd, .string nm, .int .i64 nu, .slice ao4 args.length c4] 65); simpa using h9)) (by simp [Value.oneCell']) (by decide) (by unfold maxLen; omega) (by omega) (by simp; omega) _ rfl ?_; intro g7 cap w7 hown7 hg7 hat7 hlt7; obtain ⟨⟨r0, r1, r2⟩, ⟨avs3, hGp9⟩, hbe9⟩ := hpush.out w7 g7 cap hown7 hg7))
                exact ⟨⟨j + 1, some ⟨g7, 0, none⟩, cap, avs3, by omega, by go_num, (show Gp _ _ _ _ _ _ _ _ by rw [htj.out]; exact hGp9), Hbe.out.trans hbe9⟩, by simp [intOf]; omega⟩
        · obtain rfl : j = g.nodes.length := by omega
          obtain ⟨w3, rfl⟩ : ∃ w3 : World, w3 = wr := ⟨_, rfl⟩
          have hC3 := hid (hC.out.next hbe.out)
          obtain ⟨⟨b0, b1⟩, b2⟩ := hC3.out.box
          have hgb := lt_of_block hGp.out.box
          have hpq := hid (hC.out.lo.2)
          have h50 : Hid (Gr5 w3 w2.heap.size (.slice ao g.nodes.length c) (.slice none 0 0) 0 (((g.roots.map (EI (plF g.nodes tos))).take 0).map (Value.int .i64)) w3) := ⟨Mo.refl _ _, hGp.out.box, World.ownsRow_nil _ _ _ _⟩
          go_wp2
          clear b0 b1 b2
          go_loopw [118] (fun i wr => ∃ (k : Nat) (ao5 : Option Addr) (c5 : Nat), k ≤ g.roots.length ∧ i = .int .i64 (k : Int) ∧ Hid (Gr5 w3 w2.heap.size (.slice ao g.nodes.length c) (.slice ao5 k c5) k (((g.roots.map (EI (plF g.nodes tos))).take k).map (Value.int .i64)) wr)) (fun i _ => g.roots.length - (intOf i).toNat)
          case atStart => exact ⟨0, none, 0, Nat.zero_le _, rfl, h50⟩
          case round =>
            clear h50 hlt hj
            obtain ⟨k, ao5, c5, hk, rfl, h5⟩ := hrel
            have hC6 := hid (hC3.out.mo h5.out.m hpq.out)
            obtain ⟨⟨b0, b1⟩, b2⟩ := hC6.out.box
            have hbx := h5.out.b
            obtain ⟨⟨g0, g1⟩, g2, g3⟩ := blk2y hbx
            have zg := lt_of_block hbx
            by_cases hkl : k < g.roots.length
            · have hki : (k : Int) < (g.roots.length : Int) := by omega
              obtain ⟨rb, ro, hra, r0⟩ := (HG.out.2.below hC6.out.s.b).at hkl
              subst hra
              have zr := lt_of_cell r0
              have hrr := Hg.out.root _ (getD_mem hkl)
              have htk := hid (take_map1 (f := EI (plF g.nodes tos)) hkl)
              generalize g.roots.getD k 0 = y at *
              obtain ⟨yn, rfl⟩ : ∃ yn : Nat, y = (yn : Int) := ⟨y.toNat, by omega⟩
              have hyn : yn < g.nodes.length := by omega
              have hyi : (yn : Int) < (g.nodes.length : Int) := by omega
              obtain ⟨d0, d1⟩ := hC6.out.cell hyn
              rw [fJ_get hyn, if_pos hyn] at d0
              have zd := lt_of_cell d0
              have hei : Hid (EI (plF g.nodes tos) (yn : Int) = ((plF g.nodes tos yn : Nat) : Int)) := rfl
              rw [hei.out] at htk
              generalize plF g.nodes tos yn = Q at *
              have hzk := h5.out.m.size
              have hO1 := World.ownsRow.alloc h5.out.o (.cells #[.int .i64 (Q : Int)] 3)
              have H5 := hid (fun (w5 : World) (gg cap : Nat) => Gr5.push (w5 := w5) (gg := gg) (cap := cap) (y := (Q : Int)) h5.out hgb)
              clear hrr hyn d1 hei hbx h5
              generalize hRS : ((g.roots.map (EI (plF g.nodes tos))).take k).map (Value.int .i64) = RS at *
              replace hRS := hid hRS
              go_wp2
              go_region_law
                (first
                  | (refine step_append_lies _ (by rfl) _ _ _ (by rfl) w3.heap.size 3 i0 (.int .i64 0) 1 8 Try.underlying23 hi hz0 hz1 hz2 rfl (by omega) _ k RS (by rfl) (hO1.drew) ⟨wr.heap.size, 0, none⟩ 1 1 [.int .i64 (Q : Int)] (by rfl) (by rfl) (World.news_of_block (cs := #[.int .i64 (Q : Int)]) (t := 3) (fr := (0, 0)) (heap_alloc_new wr _)) (by simp [Value.oneCell']) (by omega) (by unfold maxLen; omega) (by omega) (by simp; omega) (wr.heap.size + 1) (by simp) ?_; intro gg cap w5 hown5 hgr5 hat hlt5; obtain ⟨d5, H6⟩ := H5.out w5 gg cap hown5 hgr5; obtain ⟨⟨_, s0⟩, _, s1⟩ := blk2y d5))
              all_goals go_wp2
              all_goals
                go_roundw
                case rel => exact ⟨k + 1, some ⟨gg, 0, none⟩, cap, by omega, congrArg (Value.int .i64) (by omega), (show Gr5 _ _ _ _ _ _ _ by rw [htk.out, List.map_append, hRS.out]; exact H6)⟩
                case measure => simp [intOf]; omega
            · obtain rfl : k = g.roots.length := by omega
              have hres := hC6.out.s.r
              have hzr := lt_of_block hres
              obtain ⟨⟨s0, s1⟩, s2, s3⟩ := blk2y hres
              have hlo := hC6.out.lo
              have h6 := h5.out
              rw [List.take_of_length_le (by simp)] at h6
              have hGp9 := hGp.out
              rw [List.take_of_length_le (by rw [given_len]; omega)] at hGp9
              have hro := own_base h6.o (show w2.heap.size ≤ w3.heap.size by omega)
              have hgG : Gp w2.heap.size wr w2.heap.size (.slice ao g.nodes.length c) (.slice ao5 g.roots.length c5) avs (givenF g tos).nodes (givenF g tos).roots := hGp9.rooted h6.m h6.b (show World.ownsRow _ _ _ _ _ (List.length (g.roots.map _)) _ by rw [List.length_map]; exact hro)
              have hfar : Hid (Gr ((wr.setCell ⟨W.heap.size + 1, 0, none⟩ (.slice ao g.nodes.length c)).setCell ⟨W.heap.size + 1, 1, none⟩ (.slice ao5 g.roots.length c5)) (.slice ao g.nodes.length c) (.slice ao5 g.roots.length c5) (givenF g tos)) := (hgG.keep (fun q h1 _ => by
                have hpl := hpq.out
                rw [Below.heap_setCell _ _ _ _ (by show q ≠ W.heap.size + 1; omega), Below.heap_setCell _ _ _ _ (by show q ≠ W.heap.size + 1; omega)])).gr
              have hfin := hid (hC6.out.s.fin (.slice ao g.nodes.length c) (.slice ao5 g.roots.length c5))
              clear hres hbx hgG hGp9 h6 hro
              go_wp2
              exact bodyPost_ret (ret_sgr Try.results26 (by rfl) hfin.out.1) rfl ⟨⟨_, _, _, _, rfl, hfar.out⟩, hfin.out.2⟩
end Go.Proofs.Ytjenkpgoggmboaa

/- Same of package bisim at a good graph and a number that is no node. -/
namespace Go.Proofs.Ytjenkpgoggmboaa
open Go.RowKit

set_option maxRecDepth 100000 in
set_option maxHeartbeats 2000000 in
theorem bsame_out1 {W : World} {nv rv : Value} {g : Gf} (hG : Gr W nv rv g) (hS : Sized g) (hb : one (chk g) = []) {i j : Int} (ho : i < 0 ∨ (g.nodes.length : Int) ≤ i) :
    Calls Try.prog 24 #[.agg #[nv, rv], .int .i64 i, .int .i64 j] W fun r w' => (∃ b, r = .returned (.tuple #[.bool false, .iface 75 (.pointer (some ⟨b, 0, none⟩))]) ∧ Er w' (.iface 75 (.pointer (some ⟨b, 0, none⟩))) [(50, i)]) ∧ Below W.heap.size W w' := by
  obtain ⟨ee, he⟩ := al_dec g
  have hal := alike_good (hG.below (below_alloc W (.cells #[nv, rv] 25))) hS hb ee (fun x y _ _ => he x y)
  have hl : (ansC ee g.nodes.length 0).length = g.nodes.length := (ints_len _).trans (csF_len _ _)
  have hft := bfault_any 50 i
  clear hG
  generalize hNN : g.nodes.length = N at *
  go_enter Try.func24, Try.ntmps24
  go_wp2_with (go_at_call 51; refine hal.mono ?_; rintro e w1 ⟨⟨t2, t3, rfl, hF⟩, hb1⟩; have h0 := hF.own 0 (by simp); rw [hl] at h0; obtain ⟨ca, cc, rfl⟩ : ∃ ca cc, t2 = .slice ca N cc := own_sl h0)
  have hbb := hid (Below.next (below_alloc _ _) hb1)
  clear hal hF hl he
  go_loopw [26] (fun i' wr => ∃ k : Nat, k ≤ 0 ∧ i' = .int .i64 k ∧ Hid (wr = w1.alloc (.cells #[.int .i64 i, .int .i64 j] 3))) (fun i' _ => 2 - (intOf i').toNat)
  case atStart => exact ⟨0, Nat.zero_le _, rfl, rfl⟩
  case round =>
    obtain ⟨k, hk, rfl, hw⟩ := hrel
    obtain ⟨w2, hw2⟩ : ∃ w2, w2 = w1.alloc (.cells #[.int .i64 i, .int .i64 j] 3) := ⟨_, rfl⟩
    have hw' := hw.out
    rw [← hw2] at hw'
    subst hw'
    have hbw := hid (Below.next hbb.out (below_alloc w1 (.cells #[.int .i64 i, .int .i64 j] 3)))
    have k0 := heap_alloc_new w1 (.cells #[.int .i64 i, .int .i64 j] 3)
    rw [← hw2] at hbw k0
    have hw3 := hid hw2
    clear hw hw2
    have e0 : wr.cell? ⟨w1.heap.size, 0, none⟩ = some (.int .i64 i) := by simp [World.cell?, k0]
    have e1 : wr.cell? ⟨w1.heap.size, 1, none⟩ = some (.int .i64 j) := by simp [World.cell?, k0]
    clear k0
    obtain rfl : k = 0 := by omega
    by_cases hn : i < 0
    · go_wp2_with (go_at_call 52; refine (hft wr).mono ?_; rintro e w3 ⟨rfl, rfl⟩)
      go_ret2
      exact ⟨⟨_, rfl, (by decide : (50 : Int) ≠ 0), _, _, rfl, heap_alloc_new wr _, rfl⟩, Below.next hbw.out (below_alloc _ _)⟩
    · have hn2 : (N : Int) ≤ i := ho.resolve_left hn
      have hn1 : decide (i < 0) = false := by simpa using hn
      go_wp2_with (go_at_call 52; refine (hft wr).mono ?_; rintro e w3 ⟨rfl, rfl⟩)
      go_ret2
      exact ⟨⟨_, rfl, (by decide : (50 : Int) ≠ 0), _, _, rfl, heap_alloc_new wr _, rfl⟩, Below.next hbw.out (below_alloc _ _)⟩
set_option maxRecDepth 100000 in
set_option maxHeartbeats 2000000 in
theorem bsame_out2 {W : World} {nv rv : Value} {g : Gf} (hG : Gr W nv rv g) (hS : Sized g) (hb : one (chk g) = []) {i j : Int} (h0i : 0 ≤ i) (h1 : i < (g.nodes.length : Int)) (ho : j < 0 ∨ (g.nodes.length : Int) ≤ j) :
    Calls Try.prog 24 #[.agg #[nv, rv], .int .i64 i, .int .i64 j] W fun r w' => (∃ b, r = .returned (.tuple #[.bool false, .iface 75 (.pointer (some ⟨b, 0, none⟩))]) ∧ Er w' (.iface 75 (.pointer (some ⟨b, 0, none⟩))) [(50, j)]) ∧ Below W.heap.size W w' := by
  obtain ⟨ee, he⟩ := al_dec g
  have hal := alike_good (hG.below (below_alloc W (.cells #[nv, rv] 25))) hS hb ee (fun x y _ _ => he x y)
  have hl : (ansC ee g.nodes.length 0).length = g.nodes.length := (ints_len _).trans (csF_len _ _)
  have hft := bfault_any 50 j
  clear hG
  generalize hNN : g.nodes.length = N at *
  go_enter Try.func24, Try.ntmps24
  go_wp2_with (go_at_call 51; refine hal.mono ?_; rintro e w1 ⟨⟨t2, t3, rfl, hF⟩, hb1⟩; have h0 := hF.own 0 (by simp); rw [hl] at h0; obtain ⟨ca, cc, rfl⟩ : ∃ ca cc, t2 = .slice ca N cc := own_sl h0)
  have hbb := hid (Below.next (below_alloc _ _) hb1)
  clear hal hF hl he
  go_loopw [26] (fun i' wr => ∃ k : Nat, k ≤ 1 ∧ i' = .int .i64 k ∧ Hid (wr = w1.alloc (.cells #[.int .i64 i, .int .i64 j] 3))) (fun i' _ => 2 - (intOf i').toNat)
  case atStart => exact ⟨0, Nat.zero_le _, rfl, rfl⟩
  case round =>
    obtain ⟨k, hk, rfl, hw⟩ := hrel
    obtain ⟨w2, hw2⟩ : ∃ w2, w2 = w1.alloc (.cells #[.int .i64 i, .int .i64 j] 3) := ⟨_, rfl⟩
    have hw' := hw.out
    rw [← hw2] at hw'
    subst hw'
    have hbw := hid (Below.next hbb.out (below_alloc w1 (.cells #[.int .i64 i, .int .i64 j] 3)))
    have k0 := heap_alloc_new w1 (.cells #[.int .i64 i, .int .i64 j] 3)
    rw [← hw2] at hbw k0
    have hw3 := hid hw2
    clear hw hw2
    have e0 : wr.cell? ⟨w1.heap.size, 0, none⟩ = some (.int .i64 i) := by simp [World.cell?, k0]
    have e1 : wr.cell? ⟨w1.heap.size, 1, none⟩ = some (.int .i64 j) := by simp [World.cell?, k0]
    clear k0
    rcases (by omega : k = 0 ∨ k = 1) with rfl | rfl
    · have n1 : decide (i < 0) = false := by simpa using h0i
      have n2 : decide ((N : Int) ≤ i) = false := by simpa using h1
      go_wp2
      go_roundw
      case rel => exact ⟨1, by omega, rfl, by first | exact hw3.out | exact trivial⟩
      case measure => simp [intOf]
    · skip
      by_cases hn : j < 0
      · go_wp2_with (go_at_call 52; refine (hft wr).mono ?_; rintro e w3 ⟨rfl, rfl⟩)
        go_ret2
        exact ⟨⟨_, rfl, (by decide : (50 : Int) ≠ 0), _, _, rfl, heap_alloc_new wr _, rfl⟩, Below.next hbw.out (below_alloc _ _)⟩
      · have hn2 : (N : Int) ≤ j := ho.resolve_left hn
        have hn1 : decide (j < 0) = false := by simpa using hn
        go_wp2_with (go_at_call 52; refine (hft wr).mono ?_; rintro e w3 ⟨rfl, rfl⟩)
        go_ret2
        exact ⟨⟨_, rfl, (by decide : (50 : Int) ≠ 0), _, _, rfl, heap_alloc_new wr _, rfl⟩, Below.next hbw.out (below_alloc _ _)⟩
end Go.Proofs.Ytjenkpgoggmboaa
