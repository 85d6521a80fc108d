/- Join of package graph: its faults. -/
import Derived.Test.YtllafbghomohhaaAJZ
import Derived.Test.YtllafbghomohhaaGrReach3
namespace Go.Proofs.Ytllafbghomohhaa
open Go.RowKit

theorem keepJ {w w' : World} {q : Nat} {o : Obj} (h : w.heap[q]? = some o) (hb : Below w.heap.size w w') : w'.heap[q]? = some o := by
  rw [hb.block q (lt_of_block h)]
  exact h
theorem tot_le : ∀ (l : List Gf), (∀ g ∈ l, Good g) → totN l ≤ 4096 * l.length ∧ totR l ≤ 4096 * l.length
  | [], _ => by simp [totN, totR]
  | g :: r, h => by
    have h1 := tot_le r (fun x hx => h x (by simp [hx]))
    have h2 := (h g (by simp)).nodes
    have h3 := (h g (by simp)).roots
    have h4 : totN (g :: r) = g.nodes.length + totN r := by simp [totN]
    have h5 : totR (g :: r) = g.roots.length + totR r := by simp [totR]
    simp only [List.length_cons]
    omega
theorem one_bad {g : Gf} (h : one (chk g) ≠ []) : one (chk g) = [chk g] := by
  unfold one at h ⊢
  split
  · rename_i h0
    rw [if_pos h0] at h
    exact absurd rfl h
  · rfl
/-- What Join answers where it refuses. -/
def JoinBad (W w' : World) (e : Ending) (fs : Fs) : Prop := (∃ b, e = .returned (.tuple #[.agg #[.slice none 0 0, .slice none 0 0], .iface 70 (.pointer (some ⟨b, 0, none⟩))]) ∧ Er w' (.iface 70 (.pointer (some ⟨b, 0, none⟩))) fs) ∧ Below W.heap.size W w'
/-- What Join answers where it joins. -/
def JoinGood (W w' : World) (e : Ending) (g : Gf) : Prop := (∃ nv rv avs, e = .returned (.tuple #[.agg #[nv, rv], .nilIface]) ∧ Og w' W.heap.size nv rv avs g) ∧ Below W.heap.size W w'
/-- The graph so far, in the variable that lies at block w3.heap.size. -/
structure J (w3 w : World) (acc : Gf) (ao : Option Addr) (c : Nat) (ro : Option Addr) (rc : Nat) (avs : List Value) : Prop where
  b : Below w3.heap.size w3 w
  out : w.heap[w3.heap.size]? = some (.cells #[.slice ao acc.nodes.length c, .slice ro acc.roots.length rc] 25 (0, 0))
  og : Og w (w3.heap.size + 1) (.slice ao acc.nodes.length c) (.slice ro acc.roots.length rc) avs acc
theorem J.below {w3 w w' : World} {acc : Gf} {ao ro : Option Addr} {c rc : Nat} {avs : List Value} (h : J w3 w acc ao c ro rc avs) (hb : Below w.heap.size w w') : J w3 w' acc ao c ro rc avs :=
  ⟨Below.next h.b hb, keepJ h.out hb, h.og.below hb⟩
/-- One node more. -/
theorem J.push {w3 w w4 w5 : World} {acc : Gf} {n : Nd} {F : Int → Int} {ao aa ro : Option Addr} {c ac g cap rc nl : Nat} {avs : List Value} (hJ : J w3 w acc ao c ro rc avs) (hL : acc.nodes.length = nl) (hb : Below w.heap.size w w4)
    (ha : w4.ownsRow w.heap.size 3 1 (.slice aa n.args.length ac) n.args.length ((n.args.map F).map (Value.int .i64))) (o : Obj)
    (hg : (w4.alloc o).grownBy w5 (Value.ownBlock (.slice ao nl c))) (hown : w5.ownsRow (w3.heap.size + 1) 56 4 (.slice (some ⟨g, 0, none⟩) (nl + 1) cap) (nl + 1) (ncells acc.nodes avs ++ [.int .i64 n.kind, .string n.name, .int .i64 n.num, .slice aa n.args.length ac]))
    (hat : Value.ownBlock (.slice ao nl c) = some g ∨ g = w4.heap.size + 1) :
    J w3 (w5.setCell ⟨w3.heap.size, 0, none⟩ (.slice (some ⟨g, 0, none⟩) (nl + 1) cap)) ⟨acc.nodes ++ [renum F n], acc.roots⟩ (some ⟨g, 0, none⟩) cap ro rc (avs ++ [.slice aa n.args.length ac]) ∧
      (∀ a o', a < w.heap.size → a ≠ w3.heap.size → Value.ownBlock (.slice ao nl c) ≠ some a → w.heap[a]? = some o' → (w5.setCell ⟨w3.heap.size, 0, none⟩ (.slice (some ⟨g, 0, none⟩) (nl + 1) cap)).heap[a]? = some o') := by
  subst hL
  have hl : (renum F n).args.length = n.args.length := by simp [renum]
  have hz := lt_of_block hJ.out
  have hz4 := hb.size
  have hnv : ∀ k, Value.ownBlock (.slice ao acc.nodes.length c) = some k → w3.heap.size + 1 ≤ k := fun k e => (hJ.og.on.n.lt k e).1
  have hP : Og w5 (w3.heap.size + 1) (.slice (some ⟨g, 0, none⟩) (acc.nodes.length + 1) cap) (.slice ro acc.roots.length rc) (avs ++ [.slice aa n.args.length ac]) ⟨acc.nodes ++ [renum F n], acc.roots⟩ := by
    have hP := Og.push (n := renum F n) (ao := aa) (c := ac) (g := g) (cap := cap) hJ.og (hb.alloc hz4 o) (by rw [hl]; exact ha.alloc o) (by omega) hg (by rw [hl]; exact hown) (by
      rcases hat with e | e
      · exact Or.inl e
      · exact Or.inr (by simp; omega))
    rw [hl] at hP
    exact hP
  have hkeep : ∀ a o', a < w.heap.size → Value.ownBlock (.slice ao acc.nodes.length c) ≠ some a → w.heap[a]? = some o' → w5.heap[a]? = some o' := fun a o' h1 h2 h3 => by
    rw [hg.block a (by simp; omega) (fun e => h2 e.symm), Below.heap_alloc _ _ _ (by omega), hb.block a h1]
    exact h3
  have h5 := hkeep w3.heap.size _ hz (fun e => by have := hnv _ e; omega) hJ.out
  refine ⟨⟨?_, ?_, ?_⟩, fun a o' h1 h2 h3 h4 => ?_⟩
  · have h1 : Below w3.heap.size w3 (w4.alloc o) := (Below.next hJ.b hb).alloc (by have := hJ.b.size; omega) o
    exact (h1.grown hg (by simp; omega) (fun k e => by have := hnv k e; omega)).setCell (Nat.le_refl _) _
  · rw [blk2_set0 h5]
    simp
  · rw [List.length_append, List.length_singleton]
    exact hP.keep (fun k h1 _ => Below.heap_setCell _ _ _ _ (by show k ≠ w3.heap.size; omega))
  · rw [Below.heap_setCell _ _ _ _ h2]
    exact hkeep a o' h1 h3 h4
/-- Roots more. -/
theorem J.more {w3 w w4 w5 : World} {acc : Gf} {l : List Int} {ao ro : Option Addr} {c g cap rc rl : Nat} {avs : List Value} (hJ : J w3 w acc ao c ro rc avs) (hL : acc.roots.length = rl) (hb : Below w.heap.size w w4)
    (hg : w4.grownBy w5 (Value.ownBlock (.slice ro rl rc))) (hown : w5.ownsRow (w3.heap.size + 1) 3 1 (.slice (some ⟨g, 0, none⟩) (rl + l.length) cap) (rl + l.length) (acc.roots.map (Value.int .i64) ++ l.map (Value.int .i64)))
    (hat : Value.ownBlock (.slice ro rl rc) = some g ∨ g = w4.heap.size) :
    J w3 (w5.setCell ⟨w3.heap.size, 1, none⟩ (.slice (some ⟨g, 0, none⟩) (rl + l.length) cap)) ⟨acc.nodes, acc.roots ++ l⟩ ao c (some ⟨g, 0, none⟩) cap avs := by
  subst hL
  have hz := lt_of_block hJ.out
  have hz4 := hb.size
  obtain ⟨ro', rc', he, hr⟩ := hJ.og.r
  have hrv : ∀ k, Value.ownBlock (.slice ro acc.roots.length rc) = some k → w3.heap.size + 1 ≤ k := fun k e => by
    rw [he] at e
    exact (hr.lt k e).1
  have hP := hJ.og.roots (l := l) (g := g) (cap := cap) (m := l.length) hb rfl hg hown (by
    rcases hat with e | e
    · exact Or.inl e
    · exact Or.inr (by omega))
  have h5 : w5.heap[w3.heap.size]? = some (.cells #[.slice ao acc.nodes.length c, .slice ro acc.roots.length rc] 25) := by
    rw [hg.block _ (by omega) (fun e => by have := hrv _ e.symm; omega), hb.block _ hz]
    exact hJ.out
  refine ⟨?_, ?_, ?_⟩
  · exact ((Below.next hJ.b hb).grown hg (by have := hJ.b.size; omega) (fun k e => by have := hrv k e; omega)).setCell (Nat.le_refl _) _
  · rw [blk2_set1 h5]
    simp
  · have hP' := hP.keep (w' := w5.setCell ⟨w3.heap.size, 1, none⟩ (.slice (some ⟨g, 0, none⟩) (acc.roots.length + l.length) cap)) (fun k h1 _ => Below.heap_setCell _ _ _ _ (by show k ≠ w3.heap.size; omega))
    simpa using hP'
theorem row_some {w : World} {B : Nat} {ao : Option Addr} {n c : Nat} {xs : List Value} (h : w.ownsRow B 3 1 (.slice ao n c) n xs) (hn : 0 < n) : ∃ g, ao = some ⟨g, 0, none⟩ := by
  rcases h.2 with ⟨_, h0⟩ | ⟨g, cap, cur, hv, _⟩
  · omega
  · exact ⟨g, by injection hv⟩
theorem J.same {w3 w : World} {acc : Gf} {ao ro : Option Addr} {c rc : Nat} {avs : List Value} (h : J w3 w acc ao c ro rc avs) : J w3 (w.setCell ⟨w3.heap.size, 1, none⟩ (.slice ro acc.roots.length rc)).drew acc ao c ro rc avs := by
  have h2 : J w3 (w.setCell ⟨w3.heap.size, 1, none⟩ (.slice ro acc.roots.length rc)) acc ao c ro rc avs := ⟨h.b.setCell (Nat.le_refl _) _, blk2_set1 h.out, h.og.keep (fun k h2 _ => Below.heap_setCell _ _ _ _ (by show k ≠ w3.heap.size; omega))⟩
  exact h2.below (drew_below _)
theorem step_append_none {w : World} {ops : Array Oper} {o : Oper} {a : Act} {K : Act → World → Prop} {Q : Exit → Act → World → Prop} {E : Prop} (hgd : o.guard = none) (s x : Operand) (ho : o.op = .call { callee := .builtin .append, args := #[s, x], argTypes := #[23, 23] })
    {B n : Nat} {v : Value} {xs : List Value} (hs : a.eval s = v) {i : TypeInfo} (hi : Try.prog.info? 3 = some i) (hown : w.ownsRow B 3 1 v n xs) (hx : a.eval x = .slice none 0 0) (h : K (a.put o.dst v) w) :
    if Region.wanted o (yielded ops a.tmps) = true then Oper.wp Try.prog o a w K Q else E := by
  have hw : Region.wanted o (yielded ops a.tmps) = true := by simp [Region.wanted, hgd]
  rw [if_pos hw]
  have hrun := run_append_owned_none (P := Try.prog) (w := w) B 23 o.type 3 i 1 Try.underlying23 hi v n xs hown
  unfold Oper.wp
  simp [execOp, ho, resolve, invoke, builtin, hs, hx, hrun, Result.andThen]
  exact h
end Go.Proofs.Ytllafbghomohhaa

/- Two graphs beside one another, as plain mathematics. -/
namespace Go.Proofs.Ytllafbghomohhaa
open Go.RowKit

theorem renum_zero (n : Nd) : renum (fun x => ((([] : List Nd).length : Nat) : Int) + x) n = n := by
  obtain ⟨k, s, u, a⟩ := n
  have h : a.map (fun x => ((([] : List Nd).length : Nat) : Int) + x) = a := by
    have : a.map (fun x => ((([] : List Nd).length : Nat) : Int) + x) = a.map id := List.map_congr_left (fun x _ => by simp)
    rw [this, List.map_id]
  simp only [renum, h]
theorem joinS_nil (a : Gf) : joinS ⟨[], []⟩ a = a := by
  obtain ⟨ns, rs⟩ := a
  have h1 : ns.map (renum (fun x => ((([] : List Nd).length : Nat) : Int) + x)) = ns := by
    have : ns.map (renum (fun x => ((([] : List Nd).length : Nat) : Int) + x)) = ns.map id := List.map_congr_left (fun x _ => renum_zero x)
    rw [this, List.map_id]
  have h2 : rs.map (fun x => ((([] : List Nd).length : Nat) : Int) + x) = rs := by
    have : rs.map (fun x => ((([] : List Nd).length : Nat) : Int) + x) = rs.map id := List.map_congr_left (fun x _ => by simp)
    rw [this, List.map_id]
  unfold joinS
  dsimp only
  rw [h1, h2]
  rfl
theorem join_one (a : Gf) : joinG [a] = a := joinS_nil a
theorem join_two (a b : Gf) : joinG [a, b] = joinS a b := by
  show joinS (joinS ⟨[], []⟩ a) b = joinS a b
  rw [joinS_nil]
theorem strange_mono {N M : Nat} {x : Int} (h : strange N x = false) (hN : N ≤ M) : strange M x = false := by
  have := strange_no h
  simp [strange]
  omega
theorem goodNd_args {N M : Nat} {n n' : Nd} (h : goodNd N n = true) (hk : n'.kind = n.kind) (hs : n'.name = n.name) (hu : n'.num = n.num) (hl : n'.args.length = n.args.length) (ha : ∀ x ∈ n'.args, 0 ≤ x ∧ x < (M : Int)) : goodNd M n' = true := by
  have hst : n'.args.any (strange M) = false := by
    rw [List.any_eq_false]
    intro x hx
    have := ha x hx
    simp [strange]
    omega
  unfold goodNd at h ⊢
  rw [hk, hs, hu, hl, hst]
  split
  · rename_i hk1
    rw [if_pos hk1] at h
    exact h
  · rename_i hk1
    rw [if_neg hk1] at h
    split
    · rename_i hk2
      rw [if_pos hk2] at h
      exact h
    · rename_i hk2
      rw [if_neg hk2] at h
      split
      · rename_i hk3
        rw [if_pos hk3] at h
        exact h
      · rename_i hk3
        rw [if_neg hk3] at h
        split
        · rename_i hk4
          rw [if_pos hk4] at h
          simp only [Bool.and_eq_true] at h ⊢
          exact ⟨h.1, rfl⟩
        · rename_i hk4
          rw [if_neg hk4] at h
          exact h
section
variable {a b : Gf}
theorem joinS_nodes : (joinS a b).nodes = a.nodes ++ b.nodes.map (renum (fun x => (a.nodes.length : Int) + x)) := rfl
theorem joinS_len : (joinS a b).nodes.length = a.nodes.length + b.nodes.length := by simp [joinS]
theorem joinS_left {x : Int} (h0 : 0 ≤ x) (h1 : x < a.nodes.length) : (joinS a b).argsOf x = a.argsOf x := by
  have hx : x.toNat < a.nodes.length := by omega
  unfold Gf.argsOf
  rw [joinS_nodes]
  simp [List.getD, List.getElem?_append_left hx]
theorem joinS_right {x : Int} (h0 : (a.nodes.length : Int) ≤ x) (h1 : x < ((joinS a b).nodes.length : Int)) : ∀ y ∈ (joinS a b).argsOf x, ∃ z ∈ b.argsOf (x - a.nodes.length), y = (a.nodes.length : Int) + z := by
  rw [joinS_len] at h1
  have hx : x.toNat = a.nodes.length + (x - a.nodes.length).toNat := by omega
  have hx2 : (x - (a.nodes.length : Int)).toNat < b.nodes.length := by omega
  intro y hy
  unfold Gf.argsOf at hy ⊢
  rw [joinS_nodes, hx] at hy
  simp only [List.getD, List.getElem?_append_right (Nat.le_add_right _ _), Nat.add_sub_cancel_left, List.getElem?_map, List.getElem?_eq_getElem hx2, Option.map_some, Option.getD_some, renum] at hy ⊢
  obtain ⟨z, hz, rfl⟩ := List.mem_map.1 hy
  exact ⟨z, hz, rfl⟩
theorem joinS_good_nodes (ha : Good a) (hb : Good b) : ∀ n ∈ (joinS a b).nodes, goodNd (joinS a b).nodes.length n = true := fun n hn => by
  rw [joinS_len]
  rw [joinS_nodes] at hn
  rcases List.mem_append.1 hn with h | h
  · have hg := ha.node n h
    exact goodNd_args hg rfl rfl rfl rfl (fun x hx => by have := (good_args hg).1 x hx; omega)
  · obtain ⟨n0, h0, rfl⟩ := List.mem_map.1 h
    have hg := hb.node n0 h0
    refine goodNd_args hg rfl rfl rfl (by simp [renum]) (fun x hx => ?_)
    obtain ⟨z, hz, rfl⟩ := List.mem_map.1 hx
    have := (good_args hg).1 z hz
    omega
theorem left_good (ha : Good a) (hb : Good b) (hs : a.nodes.length + b.nodes.length ≤ 4096) : Good ⟨(joinS a b).nodes, a.roots⟩ :=
  ⟨by show (joinS a b).nodes.length ≤ 4096; rw [joinS_len]; exact hs, ha.roots, joinS_good_nodes ha hb, fun x hx => by
    have := ha.root x hx
    show 0 ≤ x ∧ x < ((joinS a b).nodes.length : Int)
    rw [joinS_len]
    omega⟩
theorem right_good (ha : Good a) (hb : Good b) (hs : a.nodes.length + b.nodes.length ≤ 4096) : Good ⟨(joinS a b).nodes, b.roots.map (fun x => (a.nodes.length : Int) + x)⟩ :=
  ⟨by show (joinS a b).nodes.length ≤ 4096; rw [joinS_len]; exact hs, by simpa using hb.roots, joinS_good_nodes ha hb, fun x hx => by
    obtain ⟨z, hz, rfl⟩ := List.mem_map.1 hx
    have := hb.root z hz
    show 0 ≤ (a.nodes.length : Int) + z ∧ (a.nodes.length : Int) + z < ((joinS a b).nodes.length : Int)
    rw [joinS_len]
    omega⟩
theorem join_good2 (ha : Good a) (hb : Good b) (hs : a.nodes.length + b.nodes.length ≤ 4096) (hr : a.roots.length + b.roots.length ≤ 4096) : Good (joinS a b) :=
  ⟨by rw [joinS_len]; exact hs, by simpa [joinS] using hr, joinS_good_nodes ha hb, fun x hx => by
    rcases List.mem_append.1 hx with h | h
    · exact (left_good ha hb hs).root x h
    · exact (right_good ha hb hs).root x h⟩
theorem left_met (ha : Good a) : ∀ x ∈ metF ⟨(joinS a b).nodes, a.roots⟩, 0 ≤ x ∧ x < (a.nodes.length : Int) :=
  meet_in (fun x => 0 ≤ x ∧ x < (a.nodes.length : Int)) (fun x hx y hy => by
    have e : (⟨(joinS a b).nodes, a.roots⟩ : Gf).argsOf x = (joinS a b).argsOf x := rfl
    rw [e, joinS_left hx.1 hx.2] at hy
    exact (ha.args hx.1 hx.2).1 y hy) _ _ _ ha.root (by simp)
theorem right_met (hb : Good b) : ∀ x ∈ metF ⟨(joinS a b).nodes, b.roots.map (fun x => (a.nodes.length : Int) + x)⟩, (a.nodes.length : Int) ≤ x ∧ x < ((joinS a b).nodes.length : Int) :=
  meet_in (fun x => (a.nodes.length : Int) ≤ x ∧ x < ((joinS a b).nodes.length : Int)) (fun x hx y hy => by
    have e : (⟨(joinS a b).nodes, b.roots.map (fun x => (a.nodes.length : Int) + x)⟩ : Gf).argsOf x = (joinS a b).argsOf x := rfl
    rw [e] at hy
    obtain ⟨z, hz, rfl⟩ := joinS_right hx.1 hx.2 y hy
    rw [joinS_len] at hx ⊢
    have := (hb.args (x := x - a.nodes.length) (by omega) (by omega)).1 z hz
    omega) _ _ _ (fun x hx => by
    obtain ⟨z, hz, rfl⟩ := List.mem_map.1 hx
    have := hb.root z hz
    rw [joinS_len]
    omega) (by simp)
theorem join_path (ha : Good a) : ∀ (path : List Int) (x : Int), 0 ≤ x → x < (a.nodes.length : Int) → goF (joinS a b) x path = goF a x path
  | [], _, _, _ => rfl
  | s :: r, x, h0, h1 => by
    have e := joinS_left (b := b) h0 h1
    simp only [goF, e]
    split
    · rfl
    · rename_i hs
      have hlt : s.toNat < (a.argsOf x).length := by omega
      have := (ha.args h0 h1).1 _ (getD_mem hlt)
      exact join_path ha r _ this.1 this.2
end
/-- Join of two small graphs refuses just where one of them is not good. -/
theorem joinC_two (a b : Gf) (h1 : a.nodes.length + b.nodes.length ≤ 4096) (h2 : a.roots.length + b.roots.length ≤ 4096) :
    (joinC [a, b] = [] ∧ Good a ∧ Good b) ∨ (joinC [a, b] ≠ [] ∧ (one (chk a) ≠ [] ∨ (one (chk a) = [] ∧ one (chk b) ≠ []))) := by
  have t1 : totN [a, b] = a.nodes.length + b.nodes.length := by simp [totN]
  have t2 : totR [a, b] = a.roots.length + b.roots.length := by simp [totR]
  by_cases ga : one (chk a) = []
  · by_cases gb : one (chk b) = []
    · refine Or.inl ⟨?_, chk_good ga, chk_good gb⟩
      have hx : ixOf badG [a, b] = -1 := by simp [ixOf, badG, ga, gb]
      unfold joinC
      rw [hx, if_neg (by omega), if_neg (by omega), if_neg (by omega)]
    · refine Or.inr ⟨?_, Or.inr ⟨ga, gb⟩⟩
      have hx : ixOf badG [a, b] = 1 := by simp [ixOf, badG, ga, gb]
      unfold joinC
      rw [hx, if_pos (by omega)]
      simp
  · refine Or.inr ⟨?_, Or.inl ga⟩
    have hx : ixOf badG [a, b] = 0 := by simp [ixOf, badG, ga]
    unfold joinC
    rw [hx, if_pos (by omega)]
    simp
end Go.Proofs.Ytllafbghomohhaa

/- Which nodes are variables. -/
namespace Go.Proofs.Ytllafbghomohhaa
open Go.RowKit

/-- Is it a variable? -/
def isVar (g : Gf) (x : Int) : Bool := decide ((g.nodes.getD x.toNat nd0).kind = 1)
theorem filter_snoc (p : Int → Bool) {l : List Int} {k : Nat} (h : k < l.length) : (l.take (k + 1)).filter p = if p (l.getD k 0) = true then (l.take k).filter p ++ [l.getD k 0] else (l.take k).filter p := by
  rw [take_snoc h, List.filter_append]
  generalize l.getD k 0 = x
  by_cases e : p x = true
  · rw [if_pos e, List.filter_cons_of_pos e]
    rfl
  · rw [if_neg e, List.filter_cons_of_neg e]
    simp
end Go.Proofs.Ytllafbghomohhaa

/- Copies, least graphs and trimmed graphs: what is alike to what, as plain mathematics. -/
namespace Go.Proofs.Ytllafbghomohhaa
open Go.RowKit

section
variable {g : Gf}
theorem two_left {x : Int} (hx : isN g x) : (joinS g g).nd x = g.nd x := by
  have h : x.toNat < g.nodes.length := by have := hx.1; have := hx.2; omega
  unfold Gf.nd
  rw [joinS_nodes]
  simp [List.getD, List.getElem?_append_left h]
theorem two_right {x : Int} (hx : isN g x) : (joinS g g).nd ((g.nodes.length : Int) + x) = renum (fun y => (g.nodes.length : Int) + y) (g.nd x) := by
  have h0 := hx.1
  have h : x.toNat < g.nodes.length := by have := hx.2; omega
  have e : ((g.nodes.length : Int) + x).toNat = g.nodes.length + x.toNat := by omega
  unfold Gf.nd
  rw [joinS_nodes, e]
  simp [List.getD, h]
theorem two_isN1 {x : Int} (hx : isN g x) : isN (joinS g g) x := ⟨hx.1, by rw [joinS_len]; have := hx.2; omega⟩
theorem two_isN2 {x : Int} (hx : isN g x) : isN (joinS g g) ((g.nodes.length : Int) + x) := ⟨by have := hx.1; omega, by rw [joinS_len]; have := hx.2; omega⟩
theorem two_arg1 {x : Int} (hx : isN g x) (k : Nat) : (joinS g g).arg x k = g.arg x k := by
  unfold Gf.arg
  rw [two_left hx]
theorem two_arg2 {x : Int} (hx : isN g x) {k : Nat} (hk : k < (g.nd x).args.length) : (joinS g g).arg ((g.nodes.length : Int) + x) k = (g.nodes.length : Int) + g.arg x k := by
  unfold Gf.arg
  rw [two_right hx]
  simp [renum, List.getD, hk]
/-- The graph with one root. -/
def rootAt (g : Gf) (i : Nat) : Gf := ⟨g.nodes, [(i : Int)]⟩
theorem rootAt_good (hg : Good g) {i : Nat} (hi : i < g.nodes.length) : Good (rootAt g i) :=
  ⟨hg.nodes, by simp [rootAt], hg.node, fun x hx => by
    have : x = (i : Int) := by simpa [rootAt] using hx
    subst this
    show 0 ≤ (i : Int) ∧ (i : Int) < (g.nodes.length : Int)
    omega⟩
theorem copy_al (hg : Good g) {i : Nat} (hi : i < g.nodes.length) : Al (joinS g g) (i : Int) ((g.nodes.length : Int) + (i : Int)) ↔ (metF (rootAt g i)).filter (isVar (rootAt g i)) = [] := by
  have ho := rootAt_good hg hi
  have hrng : ∀ x ∈ metF (rootAt g i), isN g x := fun x hx => (met_ok ho).rng x hx
  constructor
  · intro h
    have hall : ∀ x ∈ metF (rootAt g i), isN g x ∧ Al (joinS g g) x ((g.nodes.length : Int) + x) := by
      refine meet_in (fun x => isN g x ∧ Al (joinS g g) x ((g.nodes.length : Int) + x)) (fun x hx y hy => ?_) _ _ _ (fun x hx => ?_) (by simp)
      · obtain ⟨hn, hal⟩ := hx
        obtain ⟨k, hk, rfl⟩ := list_mem_getD hy
        have hk' : k < (g.nd x).args.length := hk
        have ha := (al_sim _ _ _ hal).2.2.2 k (by rw [two_left hn]; exact hk')
        rw [two_arg1 hn, two_arg2 hn hk'] at ha
        exact ⟨arg_isN hg hn hk', ha⟩
      · have e : x = (i : Int) := by simpa [rootAt] using hx
        subst e
        exact ⟨⟨by omega, by omega⟩, h⟩
    rw [List.filter_eq_nil_iff]
    intro x hx hv
    obtain ⟨hn, hal⟩ := hall x hx
    have hl := (al_sim _ _ _ hal).2.2.1
    have hk : ((joinS g g).nd x).kind = 1 := by
      rw [two_left hn]
      simpa [isVar, rootAt, Gf.nd] using hv
    have := hl.2.2.2.2 hk
    omega
  · intro h
    rw [List.filter_eq_nil_iff] at h
    refine ⟨fun x y => x ∈ metF (rootAt g i) ∧ y = (g.nodes.length : Int) + x, fun x y hxy => ?_, met_root ho _ (by simp [rootAt]), rfl⟩
    obtain ⟨hx, rfl⟩ := hxy
    have hn := hrng x hx
    refine ⟨two_isN1 hn, two_isN2 hn, ?_, fun k hk => ?_⟩
    · unfold labE
      rw [two_left hn, two_right hn]
      refine ⟨rfl, rfl, rfl, by simp [renum], fun e => ?_⟩
      have := h x hx
      exact absurd (by simpa [isVar, rootAt, Gf.nd] using e) this
    · rw [two_left hn] at hk
      rw [two_arg1 hn, two_arg2 hn hk]
      exact ⟨met_arg ho x hx _ (getD_mem hk), rfl⟩
/-- Each node of the least graph is the number of a node that is met. -/
theorem least_sur (hg : Good g) {e : Nat → Nat → Bool} (hd : ∀ x y : Nat, (e x y = true ↔ Al g (x : Int) (y : Int))) {u : Int} (hu : isN (trimF (quoF e g)) u) : ∃ x ∈ metF g, lstI e g x = u := by
  have hq := quo_good hg (al_eqv hg hd)
  have hl := trim_len hq
  have h0 := hu.1
  have h1 := hu.2
  rw [hl] at h1
  have hc : ∀ c ∈ metF (quoF e g), ∃ x, x ∈ metF g ∧ clsI e g.nodes.length x = c := by
    refine meet_in (fun c => ∃ x, x ∈ metF g ∧ clsI e g.nodes.length x = c) (fun c hx y hy => ?_) _ _ _ (fun c hx => ?_) (by simp)
    · obtain ⟨x, hx, rfl⟩ := hx
      have hn : isN g x := (met_ok hg).rng x hx
      have hy' : y ∈ ((quoF e g).nd (clsI e g.nodes.length x)).args := hy
      rw [quo_nd hg hd hn] at hy'
      obtain ⟨z, hz, rfl⟩ := List.mem_map.1 hy'
      exact ⟨z, met_arg hg x hx z hz, rfl⟩
    · obtain ⟨z, hz, rfl⟩ := List.mem_map.1 hx
      exact ⟨z, met_root hg z hz, rfl⟩
  have hm : u.toNat < (metF (quoF e g)).length := by omega
  obtain ⟨x, hx, ex⟩ := hc _ (getD_mem hm)
  refine ⟨x, hx, ?_⟩
  unfold lstI
  rw [ex]
  unfold posF
  rw [if_pos (getD_mem hm), pos_of_getD (met_ok hq).nodup hm]
  omega
theorem least_pair (hg : Good g) {e : Nat → Nat → Bool} (hd : ∀ x y : Nat, (e x y = true ↔ Al g (x : Int) (y : Int))) : Pr (trimF (quoF e g)) g (fun u x => x ∈ metF g ∧ u = lstI e g x) := by
  refine ⟨fun u x ⟨hx, hu⟩ => ⟨by rw [hu]; exact least_rng hg hd hx, (met_ok hg).rng x hx⟩, fun u x ⟨hx, hu⟩ => ?_, fun u x ⟨hx, hu⟩ k hk => ?_, fun u x x' ⟨hx, hu⟩ ⟨hx', hu'⟩ hk => ?_, fun u u' x ⟨_, hu⟩ ⟨_, hu'⟩ _ => hu.trans hu'.symm, ?_, fun i hi => ?_⟩
  · subst hu
    rw [least_nd hg hd hx]
    exact ⟨rfl, rfl, rfl, by simp [renum]⟩
  · subst hu
    rw [least_nd hg hd hx] at hk
    have hk' : k < (g.nd x).args.length := by simpa [renum] using hk
    refine ⟨met_argk hg hx hk', ?_⟩
    unfold Gf.arg
    rw [least_nd hg hd hx]
    simp [renum, List.getD, hk']
  · subst hu
    have hal := (least_al hg hd hx hx').1 hu'
    rw [least_nd hg hd hx] at hk
    exact (al_sim g x x' hal).2.2.1.2.2.2.2 hk
  · rw [least_root]
    simp
  · rw [least_root] at hi ⊢
    have hi' : i < g.roots.length := by simpa using hi
    exact ⟨metF_root hg hi', by simp [List.getD, hi']⟩
theorem least_own (hg : Good g) {e : Nat → Nat → Bool} (hd : ∀ x y : Nat, (e x y = true ↔ Al g (x : Int) (y : Int))) {u v : Int} (h : Al (trimF (quoF e g)) u v) : u = v := by
  obtain ⟨hu, hv, _⟩ := al_sim _ _ _ h
  obtain ⟨x, hx, rfl⟩ := least_sur hg hd hu
  obtain ⟨y, hy, rfl⟩ := least_sur hg hd hv
  exact (least_al hg hd hx hy).2 ((least_pair hg hd).al ⟨hx, rfl⟩ ⟨hy, rfl⟩ h)
theorem trim_pair (hg : Good g) : Pr (trimF g) g (fun u x => x ∈ metF g ∧ u = posF (metF g) x) := by
  refine ⟨fun u x ⟨hx, hu⟩ => ⟨?_, (met_ok hg).rng x hx⟩, fun u x ⟨hx, hu⟩ => ?_, fun u x ⟨hx, hu⟩ k hk => ?_, fun u x x' ⟨hx, hu⟩ ⟨hx', hu'⟩ _ => pos_inj hg x hx x' hx' (hu.symm.trans hu'), fun u u' x ⟨_, hu⟩ ⟨_, hu'⟩ _ => hu.trans hu'.symm, by simp [trimF], fun i hi => ?_⟩
  · subst hu
    have := pos_rng hg x hx
    exact ⟨this.1, by rw [trim_len hg]; exact this.2⟩
  · subst hu
    have := trim_node hg x hx
    show ((trimF g).nodes.getD _ nd0).kind = _ ∧ ((trimF g).nodes.getD _ nd0).name = _ ∧ ((trimF g).nodes.getD _ nd0).num = _ ∧ ((trimF g).nodes.getD _ nd0).args.length = _
    rw [this]
    exact ⟨rfl, rfl, rfl, by simp [renum]; rfl⟩
  · subst hu
    have hnd : (trimF g).nd (posF (metF g) x) = renum (posF (metF g)) (g.nd x) := trim_node hg x hx
    rw [hnd] at hk
    have hk' : k < (g.nd x).args.length := by simpa [renum] using hk
    refine ⟨met_argk hg hx hk', ?_⟩
    unfold Gf.arg
    rw [hnd]
    simp [renum, List.getD, hk']
  · have hi' : i < g.roots.length := by simpa [trimF] using hi
    exact ⟨metF_root hg hi', by simp [trimF, List.getD, hi']⟩
end
theorem own_num {e : Nat → Nat → Bool} {N : Nat} (he : ∀ x y, x < N → y < N → e x y = true → x = y) : ∀ m, m ≤ N → csF e m = List.range m ∧ lsF e m = List.range m
  | 0, _ => ⟨rfl, rfl⟩
  | m + 1, hm => by
    obtain ⟨h1, h2⟩ := own_num he m (by omega)
    have hf : fnd (e m) (lsF e m) = m := by
      rw [h2, fnd_miss (fun x hx => ?_), List.length_range]
      have hx' := List.mem_range.1 hx
      cases h : e m x
      · rfl
      · have := he m x (by omega) (by omega) h
        omega
    rw [csF_succ, lsF_succ, hf, h1, h2, List.length_range, if_pos rfl, List.range_succ]
    exact ⟨rfl, rfl⟩
end Go.Proofs.Ytllafbghomohhaa
