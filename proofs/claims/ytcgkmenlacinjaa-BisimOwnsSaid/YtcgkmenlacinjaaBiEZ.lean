/- Join of package graph: rows of graphs, what it answers, its function literal. -/
import Derived.Test.YtcgkmenlacinjaaGrTrim3
namespace Go.Proofs.Ytcgkmenlacinjaa
open Go.RowKit

/-- A slice tells these graphs. -/
def Rg (w : World) (v : Value) (gs : List Gf) : Prop :=
  ∃ ao c, v = .slice ao gs.length c ∧ ∀ j, j < gs.length → ∃ b o nv rv, ao = some ⟨b, o, none⟩ ∧ w.cell? ⟨b, o + j * 2, none⟩ = some nv ∧ w.cell? ⟨b, o + j * 2 + 1, none⟩ = some rv ∧ Gr w nv rv (gs.getD j gf0)
theorem Rg.below {w w' : World} {v : Value} {gs : List Gf} (h : Rg w v gs) (hb : Below w.heap.size w w') : Rg w' v gs := by
  obtain ⟨ao, c, rfl, h⟩ := h
  refine ⟨ao, c, rfl, fun j hj => ?_⟩
  obtain ⟨b, o, nv, rv, hao, h0, h1, hg⟩ := h j hj
  exact ⟨b, o, nv, rv, hao, by rw [hb.cell (p := ⟨b, o + j * 2, none⟩) (lt_of_cell h0)]; exact h0, by rw [hb.cell (p := ⟨b, o + j * 2 + 1, none⟩) (lt_of_cell h1)]; exact h1, hg.below hb⟩
/-- Is a graph not good? -/
def badG (g : Gf) : Bool := !decide (one (chk g) = [])
/-- How many nodes, how many roots graphs have together. -/
def totN (gs : List Gf) : Nat := (gs.map (fun g => g.nodes.length)).sum
def totR (gs : List Gf) : Nat := (gs.map (fun g => g.roots.length)).sum
/-- One graph more. -/
def joinS (acc g : Gf) : Gf := ⟨acc.nodes ++ g.nodes.map (renum (fun x => (acc.nodes.length : Int) + x)), acc.roots ++ g.roots.map (fun x => (acc.nodes.length : Int) + x)⟩
/-- Graphs beside one another. -/
def joinG (gs : List Gf) : Gf := gs.foldl joinS ⟨[], []⟩
/-- Join's faults. -/
def joinC (gs : List Gf) : Fs :=
  if 0 ≤ ixOf badG gs then [(44, ixOf badG gs), chk (gs.getD (ixOf badG gs).toNat gf0)]
  else if 4096 < totN gs then [(41, (totN gs : Int))]
  else if 4096 < totR gs then [(42, (totR gs : Int))]
  else []
theorem gtake_snoc {l : List Gf} {k : Nat} (h : k < l.length) : l.take (k + 1) = l.take k ++ [l.getD k gf0] := by
  rw [List.take_succ_eq_append_getElem h]
  simp [List.getD, h]
theorem jtake_snoc {l : List Nd} {k : Nat} (h : k < l.length) : l.take (k + 1) = l.take k ++ [l.getD k nd0] := by
  rw [List.take_succ_eq_append_getElem h]
  simp [List.getD, h]
theorem tot_snoc (l : List Gf) (g : Gf) : totN (l ++ [g]) = totN l + g.nodes.length ∧ totR (l ++ [g]) = totR l + g.roots.length := by simp [totN, totR]
theorem tot_take : ∀ (l : List Gf) (k : Nat), totN (l.take k) ≤ totN l ∧ totR (l.take k) ≤ totR l
  | [], k => by simp [totN, totR]
  | g :: r, 0 => by simp [totN, totR]
  | g :: r, k + 1 => by
    have := tot_take r k
    simp only [totN, totR, List.take_succ_cons, List.map_cons, List.sum_cons] at this ⊢
    omega
theorem joinG_len : ∀ (gs : List Gf) (acc : Gf), (gs.foldl joinS acc).nodes.length = acc.nodes.length + totN gs ∧ (gs.foldl joinS acc).roots.length = acc.roots.length + totR gs
  | [], acc => by simp [totN, totR]
  | g :: r, acc => by
    have h1 := joinG_len r (joinS acc g)
    have h2 : (joinS acc g).nodes.length = acc.nodes.length + g.nodes.length := by simp [joinS]
    have h3 : (joinS acc g).roots.length = acc.roots.length + g.roots.length := by simp [joinS]
    rw [List.foldl_cons]
    rw [h2, h3] at h1
    have h4 : totN (g :: r) = g.nodes.length + totN r := by simp [totN]
    have h5 : totR (g :: r) = g.roots.length + totR r := by simp [totR]
    omega
theorem joinN_eg : ∀ args w, (callFunc 48 args).run Try.prog w = .ok (.enter 48 args) w := enters_of Try.func48 (by kernel_rfl) rfl
set_option maxHeartbeats 400000 in
theorem joinN_any {w : World} {q first : Nat} (hc : w.cell? ⟨q, 0, none⟩ = some (.int .i64 (first : Int))) (hf : first ≤ 100000) {x : Int} (h0 : 0 ≤ x) (h1 : x ≤ 100000) :
    Calls Try.prog 48 #[.int .i64 x, .pointer (some ⟨q, 0, none⟩)] w fun e w' => e = .returned (.int .i64 ((first : Int) + x)) ∧ w' = w := by
  go_enter Try.func48, Try.ntmps48
  go_wp2
  go_ret
  exact ⟨rfl, rfl⟩
set_option maxRecDepth 100000 in
set_option maxHeartbeats 400000 in
theorem numbered_nil {W : World} (fv : Value) (ao : Option Addr) (c : Nat) :
    Calls Try.prog 50 #[.slice ao 0 c, fv] W fun e w' => e = .returned (.slice none 0 0) ∧ w' = W := by
  go_enter Try.func50, Try.ntmps50
  go_wp2
  refine wp_loop_rounds 1 ?_
  rw [rounds_succ]
  go_wp2
  go_ret
  exact ⟨rfl, rfl⟩
theorem mem_blocks_tail {nv : Value} {avs : List Value} {k : Nat} (h : k ∈ blocks avs) : k ∈ blocks (nv :: avs) := by
  obtain ⟨v, hv, e⟩ := List.mem_filterMap.1 h
  exact List.mem_filterMap.2 ⟨v, by simp [hv], e⟩
/-- A node more in a graph of its own. -/
theorem Og.push {w w1 w2 : World} {B : Nat} {nv rv : Value} {avs : List Value} {acc : Gf} {n : Nd} {ao : Option Addr} {c g cap : Nat} (h : Og w B nv rv avs acc) (hb : Below w.heap.size w w1)
    (ha : w1.ownsRow w.heap.size 3 1 (.slice ao n.args.length c) n.args.length (n.args.map (Value.int .i64))) (hB : B ≤ w.heap.size)
    (hg : w1.grownBy w2 nv.ownBlock) (hown : w2.ownsRow B 48 4 (.slice (some ⟨g, 0, none⟩) (acc.nodes.length + 1) cap) (acc.nodes.length + 1) (ncells acc.nodes avs ++ [.int .i64 n.kind, .string n.name, .int .i64 n.num, .slice ao n.args.length c]))
    (hat : nv.ownBlock = some g ∨ w1.heap.size ≤ g) : Og w2 B (.slice (some ⟨g, 0, none⟩) (acc.nodes.length + 1) cap) rv (avs ++ [.slice ao n.args.length c]) ⟨acc.nodes ++ [n], acc.roots⟩ := by
  obtain ⟨ro, rc, rfl, hr⟩ := h.r
  have hz := hb.size
  have hnvr : ∀ k, Value.ownBlock (.slice ro acc.roots.length rc) = some k → nv.ownBlock ≠ some k := fun k e e' => h.ap k e (List.mem_filterMap.2 ⟨nv, by simp, e'⟩)
  refine ⟨h.on.push hb ha hB hg hown hat, ⟨some ⟨g, 0, none⟩, cap, by simp⟩, ⟨ro, rc, rfl, own_block (own_below hr hb) (fun k e => hg.block k (by have := (hr.lt k e).2; omega) (fun e' => hnvr k e e'.symm))⟩, fun k e hk => ?_⟩
  have hkl := (hr.lt k e).2
  have hcons : blocks (.slice (some ⟨g, 0, none⟩) (acc.nodes.length + 1) cap :: (avs ++ [.slice ao n.args.length c])) = g :: (blocks avs ++ blocks [.slice ao n.args.length c]) := by simp [blocks, Value.ownBlock]
  rw [hcons] at hk
  rcases List.mem_cons.1 hk with e1 | hk
  · subst e1
    rcases hat with e2 | e2
    · exact hnvr k e e2
    · omega
  · rcases List.mem_append.1 hk with hk | hk
    · exact h.ap k e (mem_blocks_tail hk)
    · obtain ⟨v, hv, e3⟩ := List.mem_filterMap.1 hk
      simp at hv
      subst hv
      have := (ha.lt k e3).1
      omega
/-- Roots more in a graph of its own. -/
theorem Og.roots {w w1 w2 : World} {B : Nat} {nv rv : Value} {avs : List Value} {acc : Gf} {l : List Int} {g cap m : Nat} (h : Og w B nv rv avs acc) (hb : Below w.heap.size w w1) (hm : l.length = m)
    (hg : w1.grownBy w2 rv.ownBlock) (hown : w2.ownsRow B 3 1 (.slice (some ⟨g, 0, none⟩) (acc.roots.length + m) cap) (acc.roots.length + m) (acc.roots.map (Value.int .i64) ++ l.map (Value.int .i64)))
    (hat : rv.ownBlock = some g ∨ w1.heap.size ≤ g) : Og w2 B nv (.slice (some ⟨g, 0, none⟩) (acc.roots.length + m) cap) avs ⟨acc.nodes, acc.roots ++ l⟩ := by
  subst hm
  have hz := hb.size
  refine ⟨(h.on.below hb).keep (fun k hk => hg.block k (by have := (h.on.lt k hk).2; omega) (fun e => h.ap k e.symm hk)), h.nsl, ⟨some ⟨g, 0, none⟩, cap, by simp, by simpa using hown⟩, fun k e hk => ?_⟩
  have e' : g = k := by simpa [Value.ownBlock] using e
  subst e'
  rcases hat with e2 | e2
  · exact h.ap g e2 hk
  · have := (h.on.lt g hk).2
    omega
theorem Og.keep {w w' : World} {B : Nat} {nv rv : Value} {avs : List Value} {g : Gf} (h : Og w B nv rv avs g) (hb : ∀ k, B ≤ k → k < w.heap.size → w'.heap[k]? = w.heap[k]?) : Og w' B nv rv avs g := by
  obtain ⟨ro, rc, rfl, hr⟩ := h.r
  exact ⟨h.on.keep (fun k hk => hb k (h.on.lt k hk).1 (h.on.lt k hk).2), h.nsl, ⟨ro, rc, rfl, own_block hr (fun k e => hb k (hr.lt k e).1 (hr.lt k e).2)⟩, h.ap⟩
theorem Og.below {w w' : World} {B : Nat} {nv rv : Value} {avs : List Value} {g : Gf} (h : Og w B nv rv avs g) (hb : Below w.heap.size w w') : Og w' B nv rv avs g := h.keep (fun k _ hk => hb.block k hk)
theorem Og.base {w : World} {B B' : Nat} {nv rv : Value} {avs : List Value} {g : Gf} (h : Og w B nv rv avs g) (hB : B' ≤ B) : Og w B' nv rv avs g := by
  obtain ⟨ro, rc, rfl, hr⟩ := h.r
  refine ⟨⟨own_base h.on.n hB, h.on.len, fun j hj => ?_, h.on.nd⟩, h.nsl, ⟨ro, rc, rfl, own_base hr hB⟩, h.ap⟩
  obtain ⟨aa, ac, e1, e2⟩ := h.on.a j hj
  exact ⟨aa, ac, e1, own_base e2 hB⟩
end Go.Proofs.Ytcgkmenlacinjaa

/- Join of package graph: its faults. -/
namespace Go.Proofs.Ytcgkmenlacinjaa
open Go.RowKit

theorem keepJ {w w' : World} {q : Nat} {o : Obj} (h : w.heap[q]? = some o) (hb : Below w.heap.size w w') : w'.heap[q]? = some o := by
  rw [hb.block q (lt_of_block h)]
  exact h
theorem tot_le : ∀ (l : List Gf), (∀ g ∈ l, Good g) → totN l ≤ 4096 * l.length ∧ totR l ≤ 4096 * l.length
  | [], _ => by simp [totN, totR]
  | g :: r, h => by
    have h1 := tot_le r (fun x hx => h x (by simp [hx]))
    have h2 := (h g (by simp)).nodes
    have h3 := (h g (by simp)).roots
    have h4 : totN (g :: r) = g.nodes.length + totN r := by simp [totN]
    have h5 : totR (g :: r) = g.roots.length + totR r := by simp [totR]
    simp only [List.length_cons]
    omega
theorem one_bad {g : Gf} (h : one (chk g) ≠ []) : one (chk g) = [chk g] := by
  unfold one at h ⊢
  split
  · rename_i h0
    rw [if_pos h0] at h
    exact absurd rfl h
  · rfl
/-- What Join answers where it refuses. -/
def JoinBad (W w' : World) (e : Ending) (fs : Fs) : Prop := (∃ b, e = .returned (.tuple #[.agg #[.slice none 0 0, .slice none 0 0], .iface 65 (.pointer (some ⟨b, 0, none⟩))]) ∧ Er w' (.iface 65 (.pointer (some ⟨b, 0, none⟩))) fs) ∧ Below W.heap.size W w'
/-- What Join answers where it joins. -/
def JoinGood (W w' : World) (e : Ending) (g : Gf) : Prop := (∃ nv rv avs, e = .returned (.tuple #[.agg #[nv, rv], .nilIface]) ∧ Og w' W.heap.size nv rv avs g) ∧ Below W.heap.size W w'
/-- The graph so far, in the variable that lies at block w3.heap.size. -/
structure J (w3 w : World) (acc : Gf) (ao : Option Addr) (c : Nat) (ro : Option Addr) (rc : Nat) (avs : List Value) : Prop where
  b : Below w3.heap.size w3 w
  out : w.heap[w3.heap.size]? = some (.cells #[.slice ao acc.nodes.length c, .slice ro acc.roots.length rc] 25 (0, 0))
  og : Og w (w3.heap.size + 1) (.slice ao acc.nodes.length c) (.slice ro acc.roots.length rc) avs acc
theorem J.below {w3 w w' : World} {acc : Gf} {ao ro : Option Addr} {c rc : Nat} {avs : List Value} (h : J w3 w acc ao c ro rc avs) (hb : Below w.heap.size w w') : J w3 w' acc ao c ro rc avs :=
  ⟨Below.next h.b hb, keepJ h.out hb, h.og.below hb⟩
/-- One node more. -/
theorem J.push {w3 w w4 w5 : World} {acc : Gf} {n : Nd} {F : Int → Int} {ao aa ro : Option Addr} {c ac g cap rc nl : Nat} {avs : List Value} (hJ : J w3 w acc ao c ro rc avs) (hL : acc.nodes.length = nl) (hb : Below w.heap.size w w4)
    (ha : w4.ownsRow w.heap.size 3 1 (.slice aa n.args.length ac) n.args.length ((n.args.map F).map (Value.int .i64))) (o : Obj)
    (hg : (w4.alloc o).grownBy w5 (Value.ownBlock (.slice ao nl c))) (hown : w5.ownsRow (w3.heap.size + 1) 48 4 (.slice (some ⟨g, 0, none⟩) (nl + 1) cap) (nl + 1) (ncells acc.nodes avs ++ [.int .i64 n.kind, .string n.name, .int .i64 n.num, .slice aa n.args.length ac]))
    (hat : Value.ownBlock (.slice ao nl c) = some g ∨ g = w4.heap.size + 1) :
    J w3 (w5.setCell ⟨w3.heap.size, 0, none⟩ (.slice (some ⟨g, 0, none⟩) (nl + 1) cap)) ⟨acc.nodes ++ [renum F n], acc.roots⟩ (some ⟨g, 0, none⟩) cap ro rc (avs ++ [.slice aa n.args.length ac]) ∧
      (∀ a o', a < w.heap.size → a ≠ w3.heap.size → Value.ownBlock (.slice ao nl c) ≠ some a → w.heap[a]? = some o' → (w5.setCell ⟨w3.heap.size, 0, none⟩ (.slice (some ⟨g, 0, none⟩) (nl + 1) cap)).heap[a]? = some o') := by
  subst hL
  have hl : (renum F n).args.length = n.args.length := by simp [renum]
  have hz := lt_of_block hJ.out
  have hz4 := hb.size
  have hnv : ∀ k, Value.ownBlock (.slice ao acc.nodes.length c) = some k → w3.heap.size + 1 ≤ k := fun k e => (hJ.og.on.n.lt k e).1
  have hP : Og w5 (w3.heap.size + 1) (.slice (some ⟨g, 0, none⟩) (acc.nodes.length + 1) cap) (.slice ro acc.roots.length rc) (avs ++ [.slice aa n.args.length ac]) ⟨acc.nodes ++ [renum F n], acc.roots⟩ := by
    have hP := Og.push (n := renum F n) (ao := aa) (c := ac) (g := g) (cap := cap) hJ.og (hb.alloc hz4 o) (by rw [hl]; exact ha.alloc o) (by omega) hg (by rw [hl]; exact hown) (by
      rcases hat with e | e
      · exact Or.inl e
      · exact Or.inr (by simp; omega))
    rw [hl] at hP
    exact hP
  have hkeep : ∀ a o', a < w.heap.size → Value.ownBlock (.slice ao acc.nodes.length c) ≠ some a → w.heap[a]? = some o' → w5.heap[a]? = some o' := fun a o' h1 h2 h3 => by
    rw [hg.block a (by simp; omega) (fun e => h2 e.symm), Below.heap_alloc _ _ _ (by omega), hb.block a h1]
    exact h3
  have h5 := hkeep w3.heap.size _ hz (fun e => by have := hnv _ e; omega) hJ.out
  refine ⟨⟨?_, ?_, ?_⟩, fun a o' h1 h2 h3 h4 => ?_⟩
  · have h1 : Below w3.heap.size w3 (w4.alloc o) := (Below.next hJ.b hb).alloc (by have := hJ.b.size; omega) o
    exact (h1.grown hg (by simp; omega) (fun k e => by have := hnv k e; omega)).setCell (Nat.le_refl _) _
  · rw [blk2_set0 h5]
    simp
  · rw [List.length_append, List.length_singleton]
    exact hP.keep (fun k h1 _ => Below.heap_setCell _ _ _ _ (by show k ≠ w3.heap.size; omega))
  · rw [Below.heap_setCell _ _ _ _ h2]
    exact hkeep a o' h1 h3 h4
/-- Roots more. -/
theorem J.more {w3 w w4 w5 : World} {acc : Gf} {l : List Int} {ao ro : Option Addr} {c g cap rc rl : Nat} {avs : List Value} (hJ : J w3 w acc ao c ro rc avs) (hL : acc.roots.length = rl) (hb : Below w.heap.size w w4)
    (hg : w4.grownBy w5 (Value.ownBlock (.slice ro rl rc))) (hown : w5.ownsRow (w3.heap.size + 1) 3 1 (.slice (some ⟨g, 0, none⟩) (rl + l.length) cap) (rl + l.length) (acc.roots.map (Value.int .i64) ++ l.map (Value.int .i64)))
    (hat : Value.ownBlock (.slice ro rl rc) = some g ∨ g = w4.heap.size) :
    J w3 (w5.setCell ⟨w3.heap.size, 1, none⟩ (.slice (some ⟨g, 0, none⟩) (rl + l.length) cap)) ⟨acc.nodes, acc.roots ++ l⟩ ao c (some ⟨g, 0, none⟩) cap avs := by
  subst hL
  have hz := lt_of_block hJ.out
  have hz4 := hb.size
  obtain ⟨ro', rc', he, hr⟩ := hJ.og.r
  have hrv : ∀ k, Value.ownBlock (.slice ro acc.roots.length rc) = some k → w3.heap.size + 1 ≤ k := fun k e => by
    rw [he] at e
    exact (hr.lt k e).1
  have hP := hJ.og.roots (l := l) (g := g) (cap := cap) (m := l.length) hb rfl hg hown (by
    rcases hat with e | e
    · exact Or.inl e
    · exact Or.inr (by omega))
  have h5 : w5.heap[w3.heap.size]? = some (.cells #[.slice ao acc.nodes.length c, .slice ro acc.roots.length rc] 25) := by
    rw [hg.block _ (by omega) (fun e => by have := hrv _ e.symm; omega), hb.block _ hz]
    exact hJ.out
  refine ⟨?_, ?_, ?_⟩
  · exact ((Below.next hJ.b hb).grown hg (by have := hJ.b.size; omega) (fun k e => by have := hrv k e; omega)).setCell (Nat.le_refl _) _
  · rw [blk2_set1 h5]
    simp
  · have hP' := hP.keep (w' := w5.setCell ⟨w3.heap.size, 1, none⟩ (.slice (some ⟨g, 0, none⟩) (acc.roots.length + l.length) cap)) (fun k h1 _ => Below.heap_setCell _ _ _ _ (by show k ≠ w3.heap.size; omega))
    simpa using hP'
theorem row_some {w : World} {B : Nat} {ao : Option Addr} {n c : Nat} {xs : List Value} (h : w.ownsRow B 3 1 (.slice ao n c) n xs) (hn : 0 < n) : ∃ g, ao = some ⟨g, 0, none⟩ := by
  rcases h.2 with ⟨_, h0⟩ | ⟨g, cap, cur, hv, _⟩
  · omega
  · exact ⟨g, by injection hv⟩
theorem J.same {w3 w : World} {acc : Gf} {ao ro : Option Addr} {c rc : Nat} {avs : List Value} (h : J w3 w acc ao c ro rc avs) : J w3 (w.setCell ⟨w3.heap.size, 1, none⟩ (.slice ro acc.roots.length rc)).drew acc ao c ro rc avs := by
  have h2 : J w3 (w.setCell ⟨w3.heap.size, 1, none⟩ (.slice ro acc.roots.length rc)) acc ao c ro rc avs := ⟨h.b.setCell (Nat.le_refl _) _, blk2_set1 h.out, h.og.keep (fun k h2 _ => Below.heap_setCell _ _ _ _ (by show k ≠ w3.heap.size; omega))⟩
  exact h2.below (drew_below _)
theorem step_append_none {w : World} {ops : Array Oper} {o : Oper} {a : Act} {K : Act → World → Prop} {Q : Exit → Act → World → Prop} {E : Prop} (hgd : o.guard = none) (s x : Operand) (ho : o.op = .call { callee := .builtin .append, args := #[s, x], argTypes := #[23, 23] })
    {B n : Nat} {v : Value} {xs : List Value} (hs : a.eval s = v) {i : TypeInfo} (hi : Try.prog.info? 3 = some i) (hown : w.ownsRow B 3 1 v n xs) (hx : a.eval x = .slice none 0 0) (h : K (a.put o.dst v) w) :
    if Region.wanted o (yielded ops a.tmps) = true then Oper.wp Try.prog o a w K Q else E := by
  have hw : Region.wanted o (yielded ops a.tmps) = true := by simp [Region.wanted, hgd]
  rw [if_pos hw]
  have hrun := run_append_owned_none (P := Try.prog) (w := w) B 23 o.type 3 i 1 Try.underlying23 hi v n xs hown
  unfold Oper.wp
  simp [execOp, ho, resolve, invoke, builtin, hs, hx, hrun, Result.andThen]
  exact h
set_option maxRecDepth 100000 in
set_option maxHeartbeats 4000000 in
theorem join_any {W : World} {v : Value} {gs : List Gf} (hG : Rg W v gs) (hS : ∀ g ∈ gs, Sized g) (hl : gs.length ≤ 1000) :
    Calls Try.prog 23 #[v] W fun e w' => (joinC gs ≠ [] ∧ JoinBad W w' e (joinC gs)) ∨ (joinC gs = [] ∧ JoinGood W w' e (joinG gs)) := by
  have hG0 := hid hG
  obtain ⟨ga, gc, rfl, hGc⟩ := hG
  have hmf : ∀ (fn : Fn) (first cap : Array Value) (w : World), (Instr.makeFunc fn first cap).run Try.prog w = .ok (.func fn first cap) w := fun _ _ _ _ => rfl
  go_enter Try.func23, Try.ntmps23
  go_wp2
  go_loopw [4, 5, 18] (fun x y i wr => ∃ k : Nat, k ≤ gs.length ∧ i = .int .i64 k ∧ x = .int .i64 (totN (gs.take k) : Int) ∧ y = .int .i64 (totR (gs.take k) : Int) ∧ Hid (Below W.heap.size W wr) ∧ Hid (wr.heap[W.heap.size]? = some (.cells #[.slice none 0 0, .slice none 0 0] 25)) ∧ Hid (∀ j, j < k → badG (gs.getD j gf0) = false) ∧ Hid (∀ g ∈ gs.take k, Good g)) (fun _ _ i _ => gs.length - (intOf i).toNat)
  case atStart => exact ⟨0, Nat.zero_le _, rfl, rfl, rfl, below_alloc _ _, heap_alloc_new W _, fun j hj => absurd hj (Nat.not_lt_zero _), fun g hg => by simp at hg⟩
  case round =>
    obtain ⟨k, hk, rfl, rfl, rfl, hb, hq, hp, hgd⟩ := hrel
    have htl := tot_le _ hgd.out
    have htk : (gs.take k).length = k := by simp; omega
    rw [htk] at htl
    by_cases hlt : k < gs.length
    · obtain ⟨gb, go, nv, rv, rfl, g0, g1, hgr⟩ := hGc k hlt
      have d0 : wr.cell? ⟨gb, go + k * 2, none⟩ = some nv := by rw [hb.out.cell (p := ⟨gb, go + k * 2, none⟩) (lt_of_cell g0)]; exact g0
      have d1 : wr.cell? ⟨gb, go + k * 2 + 1, none⟩ = some rv := by rw [hb.out.cell (p := ⟨gb, go + k * 2 + 1, none⟩) (lt_of_cell g1)]; exact g1
      have hmem : gs.getD k gf0 ∈ gs := by simp [List.getD, hlt]
      have hck : ∀ w : World, Below wr.heap.size wr w → _ := fun w h => check_any (W := w) ((hgr.below hb.out).below h) (hS _ hmem)
      have hts := gtake_snoc hlt
      have htn := tot_snoc (gs.take k) (gs.getD k gf0)
      obtain ⟨na, nc, rfl, _⟩ := hgr.1
      obtain ⟨ra, rc, rfl, _⟩ := hgr.2
      have hbs := hb.out.size
      have hlb := lt_of_cell d0
      by_cases hgood : one (chk (gs.getD k gf0)) = []
      · have hgg := chk_good hgood
        have hgn := hgg.nodes
        have hgro := hgg.roots
        rw [hgood] at hck
        have hp' : Hid (∀ j, j < k + 1 → badG (gs.getD j gf0) = false) := fun j hj => by
          rcases Nat.lt_or_eq_of_le (Nat.le_of_lt_succ hj) with h | h
          · exact hp.out j h
          · subst h
            unfold badG
            rw [decide_eq_true hgood]
            rfl
        have hgd' : Hid (∀ g ∈ gs.take (k + 1), Good g) := fun g hg => by
          rw [hts] at hg
          rcases List.mem_append.1 hg with h | h
          · exact hgd.out g h
          · simp only [List.mem_singleton] at h
            rw [h]
            exact hgg
        rw [← hts] at htn
        have htN := hid htn.1
        have htR := hid htn.2
        generalize gs.getD k gf0 = X at d0 d1 hck hgn hgro htN htR
        clear hgood hgr hp hgd hts htn hgg hG0 hGc hS hmf htk
        go_wp2_with (go_at_call 22; refine (hck _ (below_alloc wr _)).mono ?_; rintro e w1 ⟨⟨ev, rfl, hE⟩, hb1⟩; cases hE; have e0 : w1.heap[wr.heap.size]? = some (.cells #[.slice na X.nodes.length nc, .slice ra X.roots.length rc] 25) := keepJ (heap_alloc_new wr _) hb1; obtain ⟨⟨f0, f1⟩, _⟩ := blk2 e0)
        go_roundw
        case rel => exact ⟨k + 1, by omega, congrArg (Value.int .i64) (by omega), congrArg (Value.int .i64) (by rw [htN.out]; omega), congrArg (Value.int .i64) (by rw [htR.out]; omega), Below.next (Below.next hb.out (below_alloc _ _)) hb1, keepJ (keepJ hq.out (below_alloc _ _)) hb1, hp', hgd'⟩
        case measure => simp [intOf]; omega
      · have hix : ixOf badG gs = (k : Int) := ixOf_hit gf0 badG gs k hlt hp.out (by
          unfold badG
          rw [decide_eq_false hgood]
          rfl)
        have hJ := hid (show joinC gs = [(44, (k : Int)), chk (gs.getD k gf0)] by
          unfold joinC
          rw [hix, if_pos (by omega), Int.toNat_natCast])
        rw [one_bad hgood] at hck
        generalize gs.getD k gf0 = X at d0 d1 hck hJ
        clear hgood hgr hp hgd hts htn hG0 hGc hS hmf htk hix hmem
        go_wp2_with (go_at_call 22; refine (hck _ (below_alloc wr _)).mono ?_; rintro e w1 ⟨⟨ev, rfl, hE⟩, hb1⟩; obtain ⟨b4, rfl⟩ : ∃ b, ev = .iface 65 (.pointer (some ⟨b, 0, none⟩)) := (hE.isNil.resolve_left (fun h => by cases h.1)).2; have e0 := keepJ (keepJ hq.out (below_alloc wr (.cells #[.slice na X.nodes.length nc, .slice ra X.roots.length rc] 25))) hb1; have e1 := keepJ e0 (below_alloc w1 (faultObj 44 (k : Int) (.iface 65 (.pointer (some ⟨b4, 0, none⟩))))); obtain ⟨⟨f0, f1⟩, f2, f3⟩ := blk2 e0; have hz1 := lt_of_block e0)
        have hE2 := Er.far (i := 1) (v := .slice none 0 0) (Er.far (i := 0) (v := .slice none 0 0) hE e0 (by decide)) (blk2_set0 e0) (by decide)
        have hsz : ((w1.setCell ⟨W.heap.size, 0, none⟩ (.slice none 0 0)).setCell ⟨W.heap.size, 1, none⟩ (.slice none 0 0)).heap.size = w1.heap.size := by simp
        have hbB : Below W.heap.size W ((w1.setCell ⟨W.heap.size, 0, none⟩ (.slice none 0 0)).setCell ⟨W.heap.size, 1, none⟩ (.slice none 0 0)) := ((Below.next (Below.next hb.out (below_alloc _ _)) hb1).setCell (Nat.le_refl _) _).setCell (Nat.le_refl _) _
        have hfb := heap_alloc_new ((w1.setCell ⟨W.heap.size, 0, none⟩ (.slice none 0 0)).setCell ⟨W.heap.size, 1, none⟩ (.slice none 0 0)) (faultObj 44 (k : Int) (.iface 65 (.pointer (some ⟨b4, 0, none⟩))))
        rw [hsz] at hfb
        refine bodyPost_ret (ret_gr Try.results23 (u0 := .slice none 0 0) (u1 := .slice none 0 0) (by rfl) (by rfl) (keepJ (blk2_set e0) (below_alloc _ _))) rfl (Or.inl ⟨by rw [hJ.out]; simp, ?_⟩)
        rw [hJ.out]
        exact ⟨⟨w1.heap.size, rfl, (show (44 : Int) ≠ 0 by decide), w1.heap.size, _, rfl, hfb, hE2.below (below_alloc _ _)⟩, hbB.alloc hbB.size _⟩
    · have hix : ixOf badG gs = -1 := ixOf_miss gf0 badG gs (fun j hj => hp.out j (by omega))
      have hall : ∀ g ∈ gs, Good g := fun g hg => hgd.out g (by rw [List.take_of_length_le (by omega)]; exact hg)
      have htk2 : gs.take k = gs := List.take_of_length_le (by omega)
      rw [htk2] at htl ⊢
      have hJ0 : joinC gs = if 4096 < totN gs then [(41, (totN gs : Int))] else if 4096 < totR gs then [(42, (totR gs : Int))] else [] := by
        unfold joinC
        rw [hix, if_neg (by omega)]
      by_cases hN : 4096 < totN gs
      · rw [if_pos hN] at hJ0
        have hJ := hid hJ0
        have hN' : (4096 : Int) < (totN gs : Int) := by omega
        clear hJ0 hp hgd hG0 hGc hS hmf htk hix hall htk2
        go_wp2_with (go_at_call 42; refine (fault_er _ _ (by decide) _).mono ?_; rintro e w1 ⟨⟨ev, b4, rfl, rfl, hE⟩, hb1⟩; have e0 := keepJ hq.out hb1; obtain ⟨⟨f0, f1⟩, f2, f3⟩ := blk2 e0)
        have hE2 := Er.far (i := 1) (v := .slice none 0 0) (Er.far (i := 0) (v := .slice none 0 0) hE e0 (by decide)) (blk2_set0 e0) (by decide)
        refine bodyPost_ret (ret_gr Try.results23 (by rfl) (by rfl) (blk2_set e0)) rfl (Or.inl ⟨by rw [hJ.out]; simp, ?_⟩)
        rw [hJ.out]
        exact ⟨⟨b4, rfl, hE2⟩, ((Below.next hb.out hb1).setCell (Nat.le_refl _) _).setCell (Nat.le_refl _) _⟩
      · have hN' : ¬ (4096 : Int) < (totN gs : Int) := by omega
        rw [if_neg hN] at hJ0
        by_cases hR : 4096 < totR gs
        · rw [if_pos hR] at hJ0
          have hJ := hid hJ0
          have hR' : (4096 : Int) < (totR gs : Int) := by omega
          clear hJ0 hp hgd hG0 hGc hS hmf htk hix hall htk2
          go_wp2_with (go_at_call 42; refine (fault_er _ _ (by decide) _).mono ?_; rintro e w1 ⟨⟨ev, b4, rfl, rfl, hE⟩, hb1⟩; have e0 := keepJ hq.out hb1; obtain ⟨⟨f0, f1⟩, f2, f3⟩ := blk2 e0)
          have hE2 := Er.far (i := 1) (v := .slice none 0 0) (Er.far (i := 0) (v := .slice none 0 0) hE e0 (by decide)) (blk2_set0 e0) (by decide)
          refine bodyPost_ret (ret_gr Try.results23 (by rfl) (by rfl) (blk2_set e0)) rfl (Or.inl ⟨by rw [hJ.out]; simp, ?_⟩)
          rw [hJ.out]
          exact ⟨⟨b4, rfl, hE2⟩, ((Below.next hb.out hb1).setCell (Nat.le_refl _) _).setCell (Nat.le_refl _) _⟩
        · rw [if_neg hR] at hJ0
          have hJ := hid hJ0
          have hR' : ¬ (4096 : Int) < (totR gs : Int) := by omega
          clear hJ0 hp hgd htk hix htk2
          obtain ⟨w3, hw3⟩ : ∃ w3, w3 = wr := ⟨wr, rfl⟩
          subst hw3
          have hj0 : Hid (J w3 (w3.alloc (.cells #[.slice none 0 0, .slice none 0 0] 25)) (joinG []) none 0 none 0 []) := ⟨below_alloc _ _, heap_alloc_new w3 _, ⟨On.nil _ _, ⟨none, 0, rfl⟩, ⟨none, 0, rfl, World.ownsRow_nil _ _ _ _⟩, fun k e => by simp [Value.ownBlock] at e⟩⟩
          go_wp2
          go_loopw [56] (fun i wr => ∃ (j : Nat) (ao : Option Addr) (c : Nat) (ro : Option Addr) (rc : Nat) (avs : List Value), j ≤ gs.length ∧ i = .int .i64 j ∧ Hid (J w3 wr (joinG (gs.take j)) ao c ro rc avs)) (fun i _ => gs.length - (intOf i).toNat)
          case atStart => exact ⟨0, none, 0, none, 0, [], Nat.zero_le _, rfl, by simpa [Hid] using hj0⟩
          case round =>
            clear hj0
            obtain ⟨j, ao, c, ro, rc, avs, hj, rfl, hJj⟩ := hrel
            by_cases hjl : j < gs.length
            · obtain ⟨i1, hi1, hy0, hy1, hy2⟩ := info_parts infoN
              obtain ⟨i0, hi, hz0, hz1, hz2⟩ := info_parts infoI
              obtain ⟨gb, go, nv, rv, rfl, g0, g1, hgr⟩ := hGc j hjl
              have hbw := Below.next hb.out hJj.out.b
              have d0 : wr.cell? ⟨gb, go + j * 2, none⟩ = some nv := by rw [hbw.cell (p := ⟨gb, go + j * 2, none⟩) (lt_of_cell g0)]; exact g0
              have d1 : wr.cell? ⟨gb, go + j * 2 + 1, none⟩ = some rv := by rw [hbw.cell (p := ⟨gb, go + j * 2 + 1, none⟩) (lt_of_cell g1)]; exact g1
              have hmem : gs.getD j gf0 ∈ gs := by simp [List.getD, hjl]
              have hX := hall _ hmem
              have hXn := hX.nodes
              have hXr := hX.roots
              have hjs : Hid (joinG (gs.take (j + 1)) = joinS (joinG (gs.take j)) (gs.getD j gf0)) := by
                show _ = _
                unfold joinG
                rw [gtake_snoc hjl, List.foldl_append]
                rfl
              have hjn : (joinG (gs.take j)).nodes.length = totN (gs.take j) := by
                have := (joinG_len (gs.take j) ⟨[], []⟩).1
                simpa [joinG] using this
              have hjr : (joinG (gs.take j)).roots.length = totR (gs.take j) := by
                have := (joinG_len (gs.take j) ⟨[], []⟩).2
                simpa [joinG] using this
              have htt := tot_take gs j
              have hXt : totN (gs.take j) + (gs.getD j gf0).nodes.length ≤ totN gs ∧ totR (gs.take j) + (gs.getD j gf0).roots.length ≤ totR gs := by
                have h1 := tot_take gs (j + 1)
                rw [gtake_snoc hjl] at h1
                have h2 := tot_snoc (gs.take j) (gs.getD j gf0)
                omega
              have hL0 : (joinG (gs.take j)).nodes.length ≤ 4096 := by omega
              have hL1 : (joinG (gs.take j)).roots.length ≤ 4096 := by omega
              have hL2 : (joinG (gs.take j)).nodes.length + (gs.getD j gf0).nodes.length ≤ 4096 := by omega
              have hL3 : (joinG (gs.take j)).roots.length + (gs.getD j gf0).roots.length ≤ 4096 := by omega
              clear hjn hjr htt hXt
              generalize joinG (gs.take j) = acc at hJj hjs hL0 hL1 hL2 hL3
              generalize gs.getD j gf0 = X at hgr hX hXn hXr hjs hL2 hL3
              clear hmem hall hG0 hGc hS htl
              have hgrW := hid hgr
              obtain ⟨na, nc, rfl, hNc⟩ := hgr.1
              obtain ⟨ra, rcX, rfl, _⟩ := hgr.2
              obtain ⟨⟨o0, o1⟩, o2, o3⟩ := blk2 hJj.out.out
              have hzo := lt_of_block hJj.out.out
              have hlb := lt_of_cell d0
              have z1 : w3.heap.size < wr.heap.size := hzo
              have z2 : ¬ w3.heap.size = wr.heap.size := by omega
              have z3 : ¬ w3.heap.size = wr.heap.size + 1 := by omega
              have hbb : Below wr.heap.size wr ((wr.alloc (.cells #[.slice na X.nodes.length nc, .slice ra X.roots.length rcX] 25)).alloc (.cells #[.int .i64 (acc.nodes.length : Int)] 3)) := (below_alloc wr _).alloc (by simp) _
              have hS0 : Hid (J w3 ((wr.alloc (.cells #[.slice na X.nodes.length nc, .slice ra X.roots.length rcX] 25)).alloc (.cells #[.int .i64 (acc.nodes.length : Int)] 3)) acc ao c ro rc avs) := hJj.out.below hbb
              have hA0 : Hid (((wr.alloc (.cells #[.slice na X.nodes.length nc, .slice ra X.roots.length rcX] 25)).alloc (.cells #[.int .i64 (acc.nodes.length : Int)] 3)).heap[wr.heap.size]? = some (.cells #[.slice na X.nodes.length nc, .slice ra X.roots.length rcX] 25)) := keepJ (heap_alloc_new wr _) (below_alloc _ _)
              have hB0 : Hid (((wr.alloc (.cells #[.slice na X.nodes.length nc, .slice ra X.roots.length rcX] 25)).alloc (.cells #[.int .i64 (acc.nodes.length : Int)] 3)).heap[wr.heap.size + 1]? = some (.cells #[.int .i64 (acc.nodes.length : Int)] 3)) := by
                have := heap_alloc_new (wr.alloc (.cells #[.slice na X.nodes.length nc, .slice ra X.roots.length rcX] 25)) (.cells #[.int .i64 (acc.nodes.length : Int)] 3)
                show _ = _
                simpa using this
              have hN0 : Hid (∀ k, Value.ownBlock (.slice ao acc.nodes.length c) = some k → k ≠ wr.heap.size ∧ k ≠ wr.heap.size + 1) := fun k e => by
                have := (hJj.out.og.on.n.lt k e).2
                omega
              obtain ⟨wo, hwo⟩ : ∃ wo, wo = wr := ⟨wr, rfl⟩
              subst hwo
              have hJb := hJj.out.b.size
              clear hbb hJj
              go_wp2
              clear o0 o1 o2 o3 d0 d1 hlb
              go_loopw [67] (fun i wr => ∃ (m : Nat) (ao : Option Addr) (c : Nat) (avs : List Value), m ≤ X.nodes.length ∧ i = .int .i64 m ∧ Hid (J w3 wr ⟨acc.nodes ++ (X.nodes.take m).map (renum (fun x => (acc.nodes.length : Int) + x)), acc.roots⟩ ao c ro rc avs) ∧ Hid (wr.heap[wo.heap.size]? = some (.cells #[.slice na X.nodes.length nc, .slice ra X.roots.length rcX] 25)) ∧ Hid (wr.heap[wo.heap.size + 1]? = some (.cells #[.int .i64 (acc.nodes.length : Int)] 3)) ∧ Hid (∀ k, Value.ownBlock (.slice ao (acc.nodes.length + m) c) = some k → k ≠ wo.heap.size ∧ k ≠ wo.heap.size + 1)) (fun i _ => X.nodes.length - (intOf i).toNat)
              case atStart => exact ⟨0, ao, c, avs, Nat.zero_le _, rfl, by simpa [Hid] using hS0, hA0, hB0, hN0⟩
              case round =>
                clear hS0 hA0 hB0 hN0
                obtain ⟨m, ao, c, avs, hm, rfl, hJm, hA, hB, hNn⟩ := hrel
                have hLm : (acc.nodes ++ (X.nodes.take m).map (renum (fun x => (acc.nodes.length : Int) + x))).length = acc.nodes.length + m := by simp; omega
                have hbw2 := Below.next hb.out hJm.out.b
                have hnumb : ∀ (w : World), Below wr.heap.size wr w → ∀ x : Int, 0 ≤ x → x < (X.nodes.length : Int) → Calls Try.prog 48 #[.int .i64 x, .pointer (some ⟨wo.heap.size + 1, 0, none⟩)] w fun e w' => e = .returned (.int .i64 ((acc.nodes.length : Int) + x)) ∧ Below w.heap.size w w' := fun w hbx x h0 h1 => by
                  refine (joinN_any (w := w) (q := wo.heap.size + 1) (first := acc.nodes.length) ?_ (by omega) h0 (by omega)).mono ?_
                  · exact cell_of_one (keepJ hB.out hbx)
                  · rintro e w' ⟨rfl, rfl⟩
                    exact ⟨rfl, Below.refl _ _⟩
                obtain ⟨⟨o0, o1⟩, o2, o3⟩ := blk2 hJm.out.out
                obtain ⟨⟨a0, a1⟩, _⟩ := blk2 hA.out
                have hout := hJm.out.out
                have hzo := lt_of_block hout
                have hza := lt_of_block hA.out
                by_cases hml : m < X.nodes.length
                · obtain ⟨nb, no, av, rfl, hnd⟩ := hNc m hml
                  obtain ⟨n0, n1, n2, n3, hAr⟩ := hnd.below hbw2
                  have hgd2 := hX.node (X.nodes.getD m nd0) (by simp [List.getD, hml])
                  have hga := good_args hgd2
                  have hgs := good_name hgd2
                  have hlp := lt_of_cell n0
                  have hNS : Hid ((⟨acc.nodes ++ (X.nodes.take (m + 1)).map (renum (fun x => (acc.nodes.length : Int) + x)), acc.roots⟩ : Gf) = ⟨(acc.nodes ++ (X.nodes.take m).map (renum (fun x => (acc.nodes.length : Int) + x))) ++ [renum (fun x => (acc.nodes.length : Int) + x) (X.nodes.getD m nd0)], acc.roots⟩) := by
                    show _ = _
                    rw [jtake_snoc hml]
                    simp
                  have honn := hJm.out.og.on.n
                  have hnv : ∀ k, Value.ownBlock (.slice ao (acc.nodes ++ (X.nodes.take m).map (renum (fun x => (acc.nodes.length : Int) + x))).length c) = some k → w3.heap.size + 1 ≤ k := fun k e => (honn.lt k e).1
                  have hcp : ∀ w : World, Below wr.heap.size wr w → _ := fun w hbx => copied_any (W := w) 48 #[.pointer (some ⟨wo.heap.size + 1, 0, none⟩)] joinN_eg (fun x => (acc.nodes.length : Int) + x) (n := X.nodes.getD m nd0) (hAr.below hbx) (by omega) (by omega) (fun x hx w' hb' => hnumb w' (Below.next hbx hb') x (hga.1 x hx).1 (hga.1 x hx).2)
                  have hpush := hid (fun (w4 w5 : World) (aa : Option Addr) (ac gg cap : Nat) => J.push (w4 := w4) (w5 := w5) (aa := aa) (ac := ac) (g := gg) (cap := cap) (F := fun x => (acc.nodes.length : Int) + x) (n := X.nodes.getD m nd0) hJm.out hLm)
                  dsimp only at honn o0 hout hnv
                  rw [hLm] at honn o0 hout hnv
                  obtain ⟨aa0, an0, ac0, hav⟩ : ∃ aa an ac, av = .slice aa an ac := by
                    obtain ⟨aa, ac, rfl, _⟩ := hAr
                    exact ⟨_, _, _, rfl⟩
                  subst hav
                  generalize X.nodes.getD m nd0 = x at n0 n1 n2 n3 hcp hNS hpush
                  generalize hcells : ncells (acc.nodes ++ (X.nodes.take m).map (renum (fun x => (acc.nodes.length : Int) + x))) avs = CS at honn hpush
                  obtain ⟨kind, name, num, args⟩ := x
                  dsimp only at n0 n1 n2 n3 hcp hpush
                  have z4 : w3.heap.size < wr.heap.size := hzo
                  have z5 : ¬ w3.heap.size = wr.heap.size := by omega
                  have o0a := cell1 o0
                  have hsz3 := hJm.out.b.size
                  clear hnumb hAr hnd hgd2 hga hgs hNc hJm hLm hgrW
                  go_wp2
                  go_region_law
                    (first
                      | (go_simp; go_at_call 49; refine (hcp _ (((below_alloc wr (.cells #[.int .i64 kind, .string name, .int .i64 num, .slice aa0 an0 ac0] 48)).drew))).mono ?_; rintro e w4 ⟨⟨aa, ac, rfl, hao⟩, hb4⟩; replace hao := own_base (B' := wr.heap.size) hao (by simp); replace hb4 : Below wr.heap.size wr w4 := Below.next (below_alloc wr (.cells #[.int .i64 kind, .string name, .int .i64 num, .slice aa0 an0 ac0] 48)) (undr1 hb4); have hon4 := World.ownsRow.alloc (own_below honn hb4) (.cells #[.int .i64 kind, .string name, .int .i64 num, .slice aa args.length ac] 48); have hz5 := hb4.size; have d4 : w4.heap[w3.heap.size]? = some (.cells #[.slice ao (acc.nodes.length + m) c, .slice ro acc.roots.length rc] 25) := keepJ hout hb4; obtain ⟨⟨d0, _⟩, d1, _⟩ := blk2 d4; have hz6 : w3.heap.size < w4.heap.size := (by omega); have d2 := cell1 d0)
                      | (refine step_append_lies _ (by rfl) _ _ _ (by rfl) (w3.heap.size + 1) 48 i1 (.agg #[.int .i64 0, .string ⟨#[]⟩, .int .i64 0, .slice none 0 0]) 4 56 Try.underlying22 hi1 hy0 hy1 hy2 rfl (by omega) _ (acc.nodes.length + m) CS (by rfl) hon4 ⟨w4.heap.size, 0, none⟩ 1 1 [.int .i64 kind, .string name, .int .i64 num, .slice aa args.length ac] (by rfl) (by rfl) (World.news_of_block (cs := #[.int .i64 kind, .string name, .int .i64 num, .slice aa args.length ac]) (t := 48) (fr := (0, 0)) (heap_alloc_new w4 _)) (by simp [Value.oneCell']) (by omega) (by unfold maxLen; omega) (by omega) (by simp; omega) (w4.heap.size + 1) (by simp) ?_; intro gg cap w5 hown5 hgr5 hat hlt5; have d5 : w5.heap[w3.heap.size]? = some (.cells #[.slice ao (acc.nodes.length + m) c, .slice ro acc.roots.length rc] 25) := (by rw [hgr5.block _ (by simp; omega) (fun e => by have := hnv _ e.symm; omega), Below.heap_alloc _ _ _ (by omega)]; exact d4); obtain ⟨⟨d0', _⟩, d1', _⟩ := blk2 d5))
                  all_goals go_wp2
                  all_goals
                    go_roundw
                    case rel =>
                      have hP := hpush.out w4 w5 aa ac gg cap hb4 hao _ hgr5 hown5 hat
                      refine ⟨m + 1, some ⟨gg, 0, none⟩, cap, avs ++ [.slice aa args.length ac], by omega, congrArg (Value.int .i64) (by omega), ?_, ?_, ?_, ?_⟩
                      · show J _ _ _ _ _ _ _ _
                        rw [hNS.out]
                        exact hP.1
                      · exact hP.2 _ _ (lt_of_block hA.out) (by omega) (fun e => (hNn.out _ e).1 rfl) hA.out
                      · exact hP.2 _ _ (lt_of_block hB.out) (by omega) (fun e => (hNn.out _ e).2 rfl) hB.out
                      · intro k e
                        have ek : gg = k := by simpa [Value.ownBlock] using e
                        subst ek
                        rcases hat with e2 | e2
                        · exact hNn.out _ e2
                        · have := lt_of_block hB.out
                          omega
                    case measure => simp [intOf]; omega
                · have hJx : Hid (J w3 wr ⟨acc.nodes ++ X.nodes.map (renum (fun x => (acc.nodes.length : Int) + x)), acc.roots⟩ ao c ro rc avs) := by
                    have := hJm.out
                    rw [List.take_of_length_le (by omega)] at this
                    exact this
                  obtain ⟨ror, rcr, hreq, hror⟩ := hJx.out.og.r
                  have hre1 : ror = ro ∧ rcr = rc := by
                    injection hreq with h1 _ h3
                    exact ⟨h1.symm, h3.symm⟩
                  obtain ⟨rfl, rfl⟩ := hre1
                  dsimp only at hror o1 o3
                  have hsz3 := hJx.out.b.size
                  have z4 : w3.heap.size < wr.heap.size := hzo
                  by_cases hr0 : X.roots = []
                  · have hnil : ∀ w : World, Calls Try.prog 50 #[.slice ra X.roots.length rcX, .func (.func 48) #[] #[.pointer (some ⟨wo.heap.size + 1, 0, none⟩)]] w fun e w' => e = .returned (.slice none 0 0) ∧ w' = w := fun w => by
                      rw [hr0]
                      exact numbered_nil _ _ _
                    have hJs : Hid (joinG (gs.take (j + 1)) = ⟨acc.nodes ++ X.nodes.map (renum (fun x => (acc.nodes.length : Int) + x)), acc.roots⟩) := by
                      show _ = _
                      rw [hjs.out]
                      simp [joinS, hr0]
                    have hsame := hid (J.same hJx.out)
                    dsimp only at hsame
                    clear hr0 hJm hLm hnumb hNc hgrW hreq
                    go_wp2
                    go_region_law
                      (first
                        | (go_simp; go_at_call 50; refine (hnil _).mono ?_; rintro e w4 ⟨rfl, hw4⟩; subst hw4)
                        | (refine step_append_none (by rfl) _ _ (by rfl) (by rfl) hi (show (wr.drew).ownsRow _ _ _ _ _ _ from hror) (by rfl) ?_))
                    all_goals go_wp2
                    all_goals
                      refine ⟨⟨j + 1, ao, c, ror, rcr, avs, by omega, congrArg (Value.int .i64) (by omega), ?_⟩, by simp [intOf]; omega⟩
                      show J _ _ _ _ _ _ _ _
                      rw [hJs.out]
                      exact hsame.out
                  · have hrl : 0 < X.roots.length := by
                      cases h : X.roots with
                      | nil => exact absurd h hr0
                      | cons a r => simp
                    have hJs : Hid (joinG (gs.take (j + 1)) = ⟨acc.nodes ++ X.nodes.map (renum (fun x => (acc.nodes.length : Int) + x)), acc.roots ++ X.roots.map (fun x => (acc.nodes.length : Int) + x)⟩) := hjs
                    have hnr : ∀ w : World, Below wr.heap.size wr w → _ := fun w hbx => numbered_any (W := w) 48 #[.pointer (some ⟨wo.heap.size + 1, 0, none⟩)] joinN_eg (fun x => (acc.nodes.length : Int) + x) ((hgrW.out.2.below hbw2).below hbx) (by omega) (fun x hx w' hb' => hnumb w' (Below.next hbx hb') x (hX.root x hx).1 (hX.root x hx).2)
                    have hmore := hid (fun (w4 w5 : World) (gg cap : Nat) => J.more (w4 := w4) (w5 := w5) (g := gg) (cap := cap) (l := X.roots.map (fun x => (acc.nodes.length : Int) + x)) hJx.out rfl)
                    dsimp only at hmore
                    rw [List.length_map] at hmore
                    have hrv : ∀ k, Value.ownBlock (.slice ror acc.roots.length rcr) = some k → w3.heap.size + 1 ≤ k := fun k e => (hror.lt k e).1
                    have hout1 : wr.heap[w3.heap.size]? = some (.cells #[.slice ao (acc.nodes ++ X.nodes.map (renum (fun x => (acc.nodes.length : Int) + x))).length c, .slice ror acc.roots.length rcr] 25) := hJx.out.out
                    generalize (acc.nodes ++ X.nodes.map (renum (fun x => (acc.nodes.length : Int) + x))).length = NL at hout1
                    generalize hRM : X.roots.map (fun x => (acc.nodes.length : Int) + x) = RM at hnr hmore hJs
                    have hRL : RM.length = X.roots.length := by rw [← hRM]; simp
                    clear hr0 hJm hLm hnumb hNc hgrW hreq hjs hRM o0
                    have o1a := cell1 o1
                    go_wp2
                    go_region_law
                      (first
                        | (go_simp; go_at_call 50; refine (hnr _ (drew_below _)).mono ?_; rintro e w4 ⟨⟨ro2, rc2, rfl, hro2⟩, hb4⟩; replace hb4 := undr1 hb4; obtain ⟨g2, rfl⟩ := row_some hro2 hrl; have hon4 := own_below hror hb4; have hz5 := hb4.size; have d4 := keepJ hout1 hb4; obtain ⟨⟨_, d0⟩, _, d1⟩ := blk2 d4; have hz6 : w3.heap.size < w4.heap.size := (by omega))
                        | (refine step_append_lies _ (by rfl) _ _ _ (by rfl) (w3.heap.size + 1) 3 i0 (.int .i64 0) 1 8 Try.underlying23 hi hz0 hz1 hz2 rfl (by omega) _ acc.roots.length (acc.roots.map (Value.int .i64)) (by rfl) hon4 ⟨g2, 0, none⟩ X.roots.length rc2 (RM.map (Value.int .i64)) (by rfl) (by simp [hRL]) (hro2.cells (g := g2) rfl) (by simp [Value.oneCell']) (by omega) (by unfold maxLen; omega) (by omega) (by omega) w4.heap.size rfl ?_; intro gg cap w5 hown5 hgr5 hat hlt5; have d5 : w5.heap[w3.heap.size]? = some (.cells #[.slice ao NL c, .slice ror acc.roots.length rcr] 25) := (by rw [hgr5.block _ (by omega) (fun e => by have := hrv _ e.symm; omega)]; exact d4); obtain ⟨⟨_, d0'⟩, _, d1'⟩ := blk2 d5))
                    all_goals go_wp2
                    all_goals
                      refine ⟨⟨j + 1, ao, c, some ⟨gg, 0, none⟩, cap, avs, by omega, congrArg (Value.int .i64) (by omega), ?_⟩, by simp [intOf]; omega⟩
                      show J _ _ _ _ _ _ _ _
                      rw [hJs.out]
                      exact hmore.out w4 w5 gg cap hb4 hgr5 hown5 hat
            · have hJe : Hid (J w3 wr (joinG gs) ao c ro rc avs) := by
                have := hJj.out
                rw [List.take_of_length_le (by omega)] at this
                exact this
              have e0 : wr.heap[W.heap.size]? = some (.cells #[.slice none 0 0, .slice none 0 0] 25) := by rw [hJe.out.b.block _ (lt_of_block hq.out)]; exact hq.out
              have hz := lt_of_block hq.out
              obtain ⟨⟨f0, f1⟩, f2, f3⟩ := blk2 e0
              obtain ⟨⟨o0, o1⟩, _⟩ := blk2 hJe.out.out
              have hO := (hJe.out.og.keep (w' := (wr.setCell ⟨W.heap.size, 0, none⟩ (.slice ao (joinG gs).nodes.length c)).setCell ⟨W.heap.size, 1, none⟩ (.slice ro (joinG gs).roots.length rc)) (fun k h1 _ => by
                rw [Below.heap_setCell _ _ _ _ (by show k ≠ W.heap.size; omega), Below.heap_setCell _ _ _ _ (by show k ≠ W.heap.size; omega)])).base (B' := W.heap.size) (by omega)
              have hOh := hid hO
              generalize (joinG gs).nodes.length = nl at o0 hOh
              generalize (joinG gs).roots.length = rl at o1 hOh
              clear hO hJj hG0 hGc hS hmf hall
              go_wp2
              refine bodyPost_ret (ret_gr Try.results23 (by rfl) (by rfl) (blk2_set e0)) rfl (Or.inr ⟨hJ.out, ⟨_, _, _, rfl, hOh.out⟩, ?_⟩)
              exact ((Below.next hb.out hJe.out.b).setCell (Nat.le_refl _) _).setCell (Nat.le_refl _) _
end Go.Proofs.Ytcgkmenlacinjaa
