/- Join of package graph: rows of graphs, what it answers, its function literal. -/
import Derived.Test.YtebmnggjblellaaGrTrim3
namespace Go.Proofs.Ytebmnggjblellaa
open Go.RowKit

/-- A slice tells these graphs. -/
def Rg (w : World) (v : Value) (gs : List Gf) : Prop :=
  ∃ ao c, v = .slice ao gs.length c ∧ ∀ j, j < gs.length → ∃ b o nv rv, ao = some ⟨b, o, none⟩ ∧ w.cell? ⟨b, o + j * 2, none⟩ = some nv ∧ w.cell? ⟨b, o + j * 2 + 1, none⟩ = some rv ∧ Gr w nv rv (gs.getD j gf0)
theorem Rg.below {w w' : World} {v : Value} {gs : List Gf} (h : Rg w v gs) (hb : Below w.heap.size w w') : Rg w' v gs := by
  obtain ⟨ao, c, rfl, h⟩ := h
  refine ⟨ao, c, rfl, fun j hj => ?_⟩
  obtain ⟨b, o, nv, rv, hao, h0, h1, hg⟩ := h j hj
  exact ⟨b, o, nv, rv, hao, by rw [hb.cell (p := ⟨b, o + j * 2, none⟩) (lt_of_cell h0)]; exact h0, by rw [hb.cell (p := ⟨b, o + j * 2 + 1, none⟩) (lt_of_cell h1)]; exact h1, hg.below hb⟩
/-- Is a graph not good? -/
def badG (g : Gf) : Bool := !decide (one (chk g) = [])
/-- How many nodes, how many roots graphs have together. -/
def totN (gs : List Gf) : Nat := (gs.map (fun g => g.nodes.length)).sum
def totR (gs : List Gf) : Nat := (gs.map (fun g => g.roots.length)).sum
/-- One graph more. -/
def joinS (acc g : Gf) : Gf := ⟨acc.nodes ++ g.nodes.map (renum (fun x => (acc.nodes.length : Int) + x)), acc.roots ++ g.roots.map (fun x => (acc.nodes.length : Int) + x)⟩
/-- Graphs beside one another. -/
def joinG (gs : List Gf) : Gf := gs.foldl joinS ⟨[], []⟩
/-- Join's faults. -/
def joinC (gs : List Gf) : Fs :=
  if 0 ≤ ixOf badG gs then [(44, ixOf badG gs), chk (gs.getD (ixOf badG gs).toNat gf0)]
  else if 4096 < totN gs then [(41, (totN gs : Int))]
  else if 4096 < totR gs then [(42, (totR gs : Int))]
  else []
theorem gtake_snoc {l : List Gf} {k : Nat} (h : k < l.length) : l.take (k + 1) = l.take k ++ [l.getD k gf0] := by
  rw [List.take_succ_eq_append_getElem h]
  simp [List.getD, h]
theorem ntake_snoc {l : List Nd} {k : Nat} (h : k < l.length) : l.take (k + 1) = l.take k ++ [l.getD k nd0] := by
  rw [List.take_succ_eq_append_getElem h]
  simp [List.getD, h]
theorem tot_snoc (l : List Gf) (g : Gf) : totN (l ++ [g]) = totN l + g.nodes.length ∧ totR (l ++ [g]) = totR l + g.roots.length := by simp [totN, totR]
theorem tot_take : ∀ (l : List Gf) (k : Nat), totN (l.take k) ≤ totN l ∧ totR (l.take k) ≤ totR l
  | [], k => by simp [totN, totR]
  | g :: r, 0 => by simp [totN, totR]
  | g :: r, k + 1 => by
    have := tot_take r k
    simp only [totN, totR, List.take_succ_cons, List.map_cons, List.sum_cons] at this ⊢
    omega
theorem joinG_len : ∀ (gs : List Gf) (acc : Gf), (gs.foldl joinS acc).nodes.length = acc.nodes.length + totN gs ∧ (gs.foldl joinS acc).roots.length = acc.roots.length + totR gs
  | [], acc => by simp [totN, totR]
  | g :: r, acc => by
    have h1 := joinG_len r (joinS acc g)
    have h2 : (joinS acc g).nodes.length = acc.nodes.length + g.nodes.length := by simp [joinS]
    have h3 : (joinS acc g).roots.length = acc.roots.length + g.roots.length := by simp [joinS]
    rw [List.foldl_cons]
    rw [h2, h3] at h1
    have h4 : totN (g :: r) = g.nodes.length + totN r := by simp [totN]
    have h5 : totR (g :: r) = g.roots.length + totR r := by simp [totR]
    omega
theorem joinN_eg : ∀ args w, (callFunc 63 args).run Try.prog w = .ok (.enter 63 args) w := enters_of Try.func63 (by kernel_rfl) rfl
set_option maxHeartbeats 400000 in
theorem joinN_any {w : World} {q first : Nat} (hc : w.cell? ⟨q, 0, none⟩ = some (.int .i64 (first : Int))) (hf : first ≤ 100000) {x : Int} (h0 : 0 ≤ x) (h1 : x ≤ 100000) :
    Calls Try.prog 63 #[.int .i64 x, .pointer (some ⟨q, 0, none⟩)] w fun e w' => e = .returned (.int .i64 ((first : Int) + x)) ∧ w' = w := by
  go_enter Try.func63, Try.ntmps63
  go_wp2
  go_ret
  exact ⟨rfl, rfl⟩
set_option maxRecDepth 100000 in
set_option maxHeartbeats 400000 in
theorem numbered_nil {W : World} (fv : Value) (ao : Option Addr) (c : Nat) :
    Calls Try.prog 56 #[.slice ao 0 c, fv] W fun e w' => e = .returned (.slice none 0 0) ∧ w' = W := by
  go_enter Try.func56, Try.ntmps56
  go_wp2
  refine wp_loop_rounds 1 ?_
  rw [rounds_succ]
  go_wp2
  go_ret
  exact ⟨rfl, rfl⟩
theorem mem_blocks_tail {nv : Value} {avs : List Value} {k : Nat} (h : k ∈ blocks avs) : k ∈ blocks (nv :: avs) := by
  obtain ⟨v, hv, e⟩ := List.mem_filterMap.1 h
  exact List.mem_filterMap.2 ⟨v, by simp [hv], e⟩
/-- A node more in a graph of its own. -/
theorem Og.push {w w1 w2 : World} {B : Nat} {nv rv : Value} {avs : List Value} {acc : Gf} {n : Nd} {ao : Option Addr} {c g cap : Nat} (h : Og w B nv rv avs acc) (hb : Below w.heap.size w w1)
    (ha : w1.ownsRow w.heap.size 3 1 (.slice ao n.args.length c) n.args.length (n.args.map (Value.int .i64))) (hB : B ≤ w.heap.size)
    (hg : w1.grownBy w2 nv.ownBlock) (hown : w2.ownsRow B 70 4 (.slice (some ⟨g, 0, none⟩) (acc.nodes.length + 1) cap) (acc.nodes.length + 1) (ncells acc.nodes avs ++ [.int .i64 n.kind, .string n.name, .int .i64 n.num, .slice ao n.args.length c]))
    (hat : nv.ownBlock = some g ∨ w1.heap.size ≤ g) : Og w2 B (.slice (some ⟨g, 0, none⟩) (acc.nodes.length + 1) cap) rv (avs ++ [.slice ao n.args.length c]) ⟨acc.nodes ++ [n], acc.roots⟩ := by
  obtain ⟨ro, rc, rfl, hr⟩ := h.r
  have hz := hb.size
  have hnvr : ∀ k, Value.ownBlock (.slice ro acc.roots.length rc) = some k → nv.ownBlock ≠ some k := fun k e e' => h.ap k e (List.mem_filterMap.2 ⟨nv, by simp, e'⟩)
  refine ⟨h.on.push hb ha hB hg hown hat, ⟨some ⟨g, 0, none⟩, cap, by simp⟩, ⟨ro, rc, rfl, own_block (own_below hr hb) (fun k e => hg.block k (by have := (hr.lt k e).2; omega) (fun e' => hnvr k e e'.symm))⟩, fun k e hk => ?_⟩
  have hkl := (hr.lt k e).2
  have hcons : blocks (.slice (some ⟨g, 0, none⟩) (acc.nodes.length + 1) cap :: (avs ++ [.slice ao n.args.length c])) = g :: (blocks avs ++ blocks [.slice ao n.args.length c]) := by simp [blocks, Value.ownBlock]
  rw [hcons] at hk
  rcases List.mem_cons.1 hk with e1 | hk
  · subst e1
    rcases hat with e2 | e2
    · exact hnvr k e e2
    · omega
  · rcases List.mem_append.1 hk with hk | hk
    · exact h.ap k e (mem_blocks_tail hk)
    · obtain ⟨v, hv, e3⟩ := List.mem_filterMap.1 hk
      simp at hv
      subst hv
      have := (ha.lt k e3).1
      omega
/-- Roots more in a graph of its own. -/
theorem Og.roots {w w1 w2 : World} {B : Nat} {nv rv : Value} {avs : List Value} {acc : Gf} {l : List Int} {g cap m : Nat} (h : Og w B nv rv avs acc) (hb : Below w.heap.size w w1) (hm : l.length = m)
    (hg : w1.grownBy w2 rv.ownBlock) (hown : w2.ownsRow B 3 1 (.slice (some ⟨g, 0, none⟩) (acc.roots.length + m) cap) (acc.roots.length + m) (acc.roots.map (Value.int .i64) ++ l.map (Value.int .i64)))
    (hat : rv.ownBlock = some g ∨ w1.heap.size ≤ g) : Og w2 B nv (.slice (some ⟨g, 0, none⟩) (acc.roots.length + m) cap) avs ⟨acc.nodes, acc.roots ++ l⟩ := by
  subst hm
  have hz := hb.size
  refine ⟨(h.on.below hb).keep (fun k hk => hg.block k (by have := (h.on.lt k hk).2; omega) (fun e => h.ap k e.symm hk)), h.nsl, ⟨some ⟨g, 0, none⟩, cap, by simp, by simpa using hown⟩, fun k e hk => ?_⟩
  have e' : g = k := by simpa [Value.ownBlock] using e
  subst e'
  rcases hat with e2 | e2
  · exact h.ap g e2 hk
  · have := (h.on.lt g hk).2
    omega
theorem Og.keep {w w' : World} {B : Nat} {nv rv : Value} {avs : List Value} {g : Gf} (h : Og w B nv rv avs g) (hb : ∀ k, B ≤ k → k < w.heap.size → w'.heap[k]? = w.heap[k]?) : Og w' B nv rv avs g := by
  obtain ⟨ro, rc, rfl, hr⟩ := h.r
  exact ⟨h.on.keep (fun k hk => hb k (h.on.lt k hk).1 (h.on.lt k hk).2), h.nsl, ⟨ro, rc, rfl, own_block hr (fun k e => hb k (hr.lt k e).1 (hr.lt k e).2)⟩, h.ap⟩
theorem Og.below {w w' : World} {B : Nat} {nv rv : Value} {avs : List Value} {g : Gf} (h : Og w B nv rv avs g) (hb : Below w.heap.size w w') : Og w' B nv rv avs g := h.keep (fun k _ hk => hb.block k hk)
theorem Og.base {w : World} {B B' : Nat} {nv rv : Value} {avs : List Value} {g : Gf} (h : Og w B nv rv avs g) (hB : B' ≤ B) : Og w B' nv rv avs g := by
  obtain ⟨ro, rc, rfl, hr⟩ := h.r
  refine ⟨⟨own_base h.on.n hB, h.on.len, fun j hj => ?_, h.on.nd⟩, h.nsl, ⟨ro, rc, rfl, own_base hr hB⟩, h.ap⟩
  obtain ⟨aa, ac, e1, e2⟩ := h.on.a j hj
  exact ⟨aa, ac, e1, own_base e2 hB⟩
end Go.Proofs.Ytebmnggjblellaa
