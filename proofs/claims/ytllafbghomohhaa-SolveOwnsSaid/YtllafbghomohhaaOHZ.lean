/- Join of package graph: its faults. -/
import Derived.Test.YtllafbghomohhaaOGZ
import Derived.Test.YtllafbghomohhaaGrReach3
import Derived.Test.YtllafbghomohhaaOFZ
import Derived.Test.YtllafbghomohhaaOEZ
namespace Go.Proofs.Ytllafbghomohhaa
open Go.RowKit

theorem keepJ {w w' : World} {q : Nat} {o : Obj} (h : w.heap[q]? = some o) (hb : Below w.heap.size w w') : w'.heap[q]? = some o := by
  rw [hb.block q (lt_of_block h)]
  exact h
theorem tot_le : ∀ (l : List Gf), (∀ g ∈ l, Good g) → totN l ≤ 4096 * l.length ∧ totR l ≤ 4096 * l.length
  | [], _ => by simp [totN, totR]
  | g :: r, h => by
    have h1 := tot_le r (fun x hx => h x (by simp [hx]))
    have h2 := (h g (by simp)).nodes
    have h3 := (h g (by simp)).roots
    have h4 : totN (g :: r) = g.nodes.length + totN r := by simp [totN]
    have h5 : totR (g :: r) = g.roots.length + totR r := by simp [totR]
    simp only [List.length_cons]
    omega
theorem one_bad {g : Gf} (h : one (chk g) ≠ []) : one (chk g) = [chk g] := by
  unfold one at h ⊢
  split
  · rename_i h0
    rw [if_pos h0] at h
    exact absurd rfl h
  · rfl
/-- What Join answers where it refuses. -/
def JoinBad (W w' : World) (e : Ending) (fs : Fs) : Prop := (∃ b, e = .returned (.tuple #[.agg #[.slice none 0 0, .slice none 0 0], .iface 70 (.pointer (some ⟨b, 0, none⟩))]) ∧ Er w' (.iface 70 (.pointer (some ⟨b, 0, none⟩))) fs) ∧ Below W.heap.size W w'
/-- What Join answers where it joins. -/
def JoinGood (W w' : World) (e : Ending) (g : Gf) : Prop := (∃ nv rv avs, e = .returned (.tuple #[.agg #[nv, rv], .nilIface]) ∧ Og w' W.heap.size nv rv avs g) ∧ Below W.heap.size W w'
/-- The graph so far, in the variable that lies at block w3.heap.size. -/
structure J (w3 w : World) (acc : Gf) (ao : Option Addr) (c : Nat) (ro : Option Addr) (rc : Nat) (avs : List Value) : Prop where
  b : Below w3.heap.size w3 w
  out : w.heap[w3.heap.size]? = some (.cells #[.slice ao acc.nodes.length c, .slice ro acc.roots.length rc] 25 (0, 0))
  og : Og w (w3.heap.size + 1) (.slice ao acc.nodes.length c) (.slice ro acc.roots.length rc) avs acc
theorem J.below {w3 w w' : World} {acc : Gf} {ao ro : Option Addr} {c rc : Nat} {avs : List Value} (h : J w3 w acc ao c ro rc avs) (hb : Below w.heap.size w w') : J w3 w' acc ao c ro rc avs :=
  ⟨Below.next h.b hb, keepJ h.out hb, h.og.below hb⟩
/-- One node more. -/
theorem J.push {w3 w w4 w5 : World} {acc : Gf} {n : Nd} {F : Int → Int} {ao aa ro : Option Addr} {c ac g cap rc nl : Nat} {avs : List Value} (hJ : J w3 w acc ao c ro rc avs) (hL : acc.nodes.length = nl) (hb : Below w.heap.size w w4)
    (ha : w4.ownsRow w.heap.size 3 1 (.slice aa n.args.length ac) n.args.length ((n.args.map F).map (Value.int .i64))) (o : Obj)
    (hg : (w4.alloc o).grownBy w5 (Value.ownBlock (.slice ao nl c))) (hown : w5.ownsRow (w3.heap.size + 1) 56 4 (.slice (some ⟨g, 0, none⟩) (nl + 1) cap) (nl + 1) (ncells acc.nodes avs ++ [.int .i64 n.kind, .string n.name, .int .i64 n.num, .slice aa n.args.length ac]))
    (hat : Value.ownBlock (.slice ao nl c) = some g ∨ g = w4.heap.size + 1) :
    J w3 (w5.setCell ⟨w3.heap.size, 0, none⟩ (.slice (some ⟨g, 0, none⟩) (nl + 1) cap)) ⟨acc.nodes ++ [renum F n], acc.roots⟩ (some ⟨g, 0, none⟩) cap ro rc (avs ++ [.slice aa n.args.length ac]) ∧
      (∀ a o', a < w.heap.size → a ≠ w3.heap.size → Value.ownBlock (.slice ao nl c) ≠ some a → w.heap[a]? = some o' → (w5.setCell ⟨w3.heap.size, 0, none⟩ (.slice (some ⟨g, 0, none⟩) (nl + 1) cap)).heap[a]? = some o') := by
  subst hL
  have hl : (renum F n).args.length = n.args.length := by simp [renum]
  have hz := lt_of_block hJ.out
  have hz4 := hb.size
  have hnv : ∀ k, Value.ownBlock (.slice ao acc.nodes.length c) = some k → w3.heap.size + 1 ≤ k := fun k e => (hJ.og.on.n.lt k e).1
  have hP : Og w5 (w3.heap.size + 1) (.slice (some ⟨g, 0, none⟩) (acc.nodes.length + 1) cap) (.slice ro acc.roots.length rc) (avs ++ [.slice aa n.args.length ac]) ⟨acc.nodes ++ [renum F n], acc.roots⟩ := by
    have hP := Og.push (n := renum F n) (ao := aa) (c := ac) (g := g) (cap := cap) hJ.og (hb.alloc hz4 o) (by rw [hl]; exact ha.alloc o) (by omega) hg (by rw [hl]; exact hown) (by
      rcases hat with e | e
      · exact Or.inl e
      · exact Or.inr (by simp; omega))
    rw [hl] at hP
    exact hP
  have hkeep : ∀ a o', a < w.heap.size → Value.ownBlock (.slice ao acc.nodes.length c) ≠ some a → w.heap[a]? = some o' → w5.heap[a]? = some o' := fun a o' h1 h2 h3 => by
    rw [hg.block a (by simp; omega) (fun e => h2 e.symm), Below.heap_alloc _ _ _ (by omega), hb.block a h1]
    exact h3
  have h5 := hkeep w3.heap.size _ hz (fun e => by have := hnv _ e; omega) hJ.out
  refine ⟨⟨?_, ?_, ?_⟩, fun a o' h1 h2 h3 h4 => ?_⟩
  · have h1 : Below w3.heap.size w3 (w4.alloc o) := (Below.next hJ.b hb).alloc (by have := hJ.b.size; omega) o
    exact (h1.grown hg (by simp; omega) (fun k e => by have := hnv k e; omega)).setCell (Nat.le_refl _) _
  · rw [blk2_set0 h5]
    simp
  · rw [List.length_append, List.length_singleton]
    exact hP.keep (fun k h1 _ => Below.heap_setCell _ _ _ _ (by show k ≠ w3.heap.size; omega))
  · rw [Below.heap_setCell _ _ _ _ h2]
    exact hkeep a o' h1 h3 h4
/-- Roots more. -/
theorem J.more {w3 w w4 w5 : World} {acc : Gf} {l : List Int} {ao ro : Option Addr} {c g cap rc rl : Nat} {avs : List Value} (hJ : J w3 w acc ao c ro rc avs) (hL : acc.roots.length = rl) (hb : Below w.heap.size w w4)
    (hg : w4.grownBy w5 (Value.ownBlock (.slice ro rl rc))) (hown : w5.ownsRow (w3.heap.size + 1) 3 1 (.slice (some ⟨g, 0, none⟩) (rl + l.length) cap) (rl + l.length) (acc.roots.map (Value.int .i64) ++ l.map (Value.int .i64)))
    (hat : Value.ownBlock (.slice ro rl rc) = some g ∨ g = w4.heap.size) :
    J w3 (w5.setCell ⟨w3.heap.size, 1, none⟩ (.slice (some ⟨g, 0, none⟩) (rl + l.length) cap)) ⟨acc.nodes, acc.roots ++ l⟩ ao c (some ⟨g, 0, none⟩) cap avs := by
  subst hL
  have hz := lt_of_block hJ.out
  have hz4 := hb.size
  obtain ⟨ro', rc', he, hr⟩ := hJ.og.r
  have hrv : ∀ k, Value.ownBlock (.slice ro acc.roots.length rc) = some k → w3.heap.size + 1 ≤ k := fun k e => by
    rw [he] at e
    exact (hr.lt k e).1
  have hP := hJ.og.roots (l := l) (g := g) (cap := cap) (m := l.length) hb rfl hg hown (by
    rcases hat with e | e
    · exact Or.inl e
    · exact Or.inr (by omega))
  have h5 : w5.heap[w3.heap.size]? = some (.cells #[.slice ao acc.nodes.length c, .slice ro acc.roots.length rc] 25) := by
    rw [hg.block _ (by omega) (fun e => by have := hrv _ e.symm; omega), hb.block _ hz]
    exact hJ.out
  refine ⟨?_, ?_, ?_⟩
  · exact ((Below.next hJ.b hb).grown hg (by have := hJ.b.size; omega) (fun k e => by have := hrv k e; omega)).setCell (Nat.le_refl _) _
  · rw [blk2_set1 h5]
    simp
  · have hP' := hP.keep (w' := w5.setCell ⟨w3.heap.size, 1, none⟩ (.slice (some ⟨g, 0, none⟩) (acc.roots.length + l.length) cap)) (fun k h1 _ => Below.heap_setCell _ _ _ _ (by show k ≠ w3.heap.size; omega))
    simpa using hP'
theorem row_some {w : World} {B : Nat} {ao : Option Addr} {n c : Nat} {xs : List Value} (h : w.ownsRow B 3 1 (.slice ao n c) n xs) (hn : 0 < n) : ∃ g, ao = some ⟨g, 0, none⟩ := by
  rcases h.2 with ⟨_, h0⟩ | ⟨g, cap, cur, hv, _⟩
  · omega
  · exact ⟨g, by injection hv⟩
theorem J.same {w3 w : World} {acc : Gf} {ao ro : Option Addr} {c rc : Nat} {avs : List Value} (h : J w3 w acc ao c ro rc avs) : J w3 (w.setCell ⟨w3.heap.size, 1, none⟩ (.slice ro acc.roots.length rc)).drew acc ao c ro rc avs := by
  have h2 : J w3 (w.setCell ⟨w3.heap.size, 1, none⟩ (.slice ro acc.roots.length rc)) acc ao c ro rc avs := ⟨h.b.setCell (Nat.le_refl _) _, blk2_set1 h.out, h.og.keep (fun k h2 _ => Below.heap_setCell _ _ _ _ (by show k ≠ w3.heap.size; omega))⟩
  exact h2.below (drew_below _)
theorem step_append_none {w : World} {ops : Array Oper} {o : Oper} {a : Act} {K : Act → World → Prop} {Q : Exit → Act → World → Prop} {E : Prop} (hgd : o.guard = none) (s x : Operand) (ho : o.op = .call { callee := .builtin .append, args := #[s, x], argTypes := #[23, 23] })
    {B n : Nat} {v : Value} {xs : List Value} (hs : a.eval s = v) {i : TypeInfo} (hi : Try.prog.info? 3 = some i) (hown : w.ownsRow B 3 1 v n xs) (hx : a.eval x = .slice none 0 0) (h : K (a.put o.dst v) w) :
    if Region.wanted o (yielded ops a.tmps) = true then Oper.wp Try.prog o a w K Q else E := by
  have hw : Region.wanted o (yielded ops a.tmps) = true := by simp [Region.wanted, hgd]
  rw [if_pos hw]
  have hrun := run_append_owned_none (P := Try.prog) (w := w) B 23 o.type 3 i 1 Try.underlying23 hi v n xs hown
  unfold Oper.wp
  simp [execOp, ho, resolve, invoke, builtin, hs, hx, hrun, Result.andThen]
  exact h
end Go.Proofs.Ytllafbghomohhaa

/- Two graphs beside one another, as plain mathematics. -/
namespace Go.Proofs.Ytllafbghomohhaa
open Go.RowKit

theorem renum_zero (n : Nd) : renum (fun x => ((([] : List Nd).length : Nat) : Int) + x) n = n := by
  obtain ⟨k, s, u, a⟩ := n
  have h : a.map (fun x => ((([] : List Nd).length : Nat) : Int) + x) = a := by
    have : a.map (fun x => ((([] : List Nd).length : Nat) : Int) + x) = a.map id := List.map_congr_left (fun x _ => by simp)
    rw [this, List.map_id]
  simp only [renum, h]
theorem joinS_nil (a : Gf) : joinS ⟨[], []⟩ a = a := by
  obtain ⟨ns, rs⟩ := a
  have h1 : ns.map (renum (fun x => ((([] : List Nd).length : Nat) : Int) + x)) = ns := by
    have : ns.map (renum (fun x => ((([] : List Nd).length : Nat) : Int) + x)) = ns.map id := List.map_congr_left (fun x _ => renum_zero x)
    rw [this, List.map_id]
  have h2 : rs.map (fun x => ((([] : List Nd).length : Nat) : Int) + x) = rs := by
    have : rs.map (fun x => ((([] : List Nd).length : Nat) : Int) + x) = rs.map id := List.map_congr_left (fun x _ => by simp)
    rw [this, List.map_id]
  unfold joinS
  dsimp only
  rw [h1, h2]
  rfl
theorem join_one (a : Gf) : joinG [a] = a := joinS_nil a
theorem join_two (a b : Gf) : joinG [a, b] = joinS a b := by
  show joinS (joinS ⟨[], []⟩ a) b = joinS a b
  rw [joinS_nil]
theorem strange_mono {N M : Nat} {x : Int} (h : strange N x = false) (hN : N ≤ M) : strange M x = false := by
  have := strange_no h
  simp [strange]
  omega
theorem goodNd_args {N M : Nat} {n n' : Nd} (h : goodNd N n = true) (hk : n'.kind = n.kind) (hs : n'.name = n.name) (hu : n'.num = n.num) (hl : n'.args.length = n.args.length) (ha : ∀ x ∈ n'.args, 0 ≤ x ∧ x < (M : Int)) : goodNd M n' = true := by
  have hst : n'.args.any (strange M) = false := by
    rw [List.any_eq_false]
    intro x hx
    have := ha x hx
    simp [strange]
    omega
  unfold goodNd at h ⊢
  rw [hk, hs, hu, hl, hst]
  split
  · rename_i hk1
    rw [if_pos hk1] at h
    exact h
  · rename_i hk1
    rw [if_neg hk1] at h
    split
    · rename_i hk2
      rw [if_pos hk2] at h
      exact h
    · rename_i hk2
      rw [if_neg hk2] at h
      split
      · rename_i hk3
        rw [if_pos hk3] at h
        exact h
      · rename_i hk3
        rw [if_neg hk3] at h
        split
        · rename_i hk4
          rw [if_pos hk4] at h
          simp only [Bool.and_eq_true] at h ⊢
          exact ⟨h.1, rfl⟩
        · rename_i hk4
          rw [if_neg hk4] at h
          exact h
section
variable {a b : Gf}
theorem joinS_nodes : (joinS a b).nodes = a.nodes ++ b.nodes.map (renum (fun x => (a.nodes.length : Int) + x)) := rfl
theorem joinS_len : (joinS a b).nodes.length = a.nodes.length + b.nodes.length := by simp [joinS]
theorem joinS_left {x : Int} (h0 : 0 ≤ x) (h1 : x < a.nodes.length) : (joinS a b).argsOf x = a.argsOf x := by
  have hx : x.toNat < a.nodes.length := by omega
  unfold Gf.argsOf
  rw [joinS_nodes]
  simp [List.getD, List.getElem?_append_left hx]
theorem joinS_right {x : Int} (h0 : (a.nodes.length : Int) ≤ x) (h1 : x < ((joinS a b).nodes.length : Int)) : ∀ y ∈ (joinS a b).argsOf x, ∃ z ∈ b.argsOf (x - a.nodes.length), y = (a.nodes.length : Int) + z := by
  rw [joinS_len] at h1
  have hx : x.toNat = a.nodes.length + (x - a.nodes.length).toNat := by omega
  have hx2 : (x - (a.nodes.length : Int)).toNat < b.nodes.length := by omega
  intro y hy
  unfold Gf.argsOf at hy ⊢
  rw [joinS_nodes, hx] at hy
  simp only [List.getD, List.getElem?_append_right (Nat.le_add_right _ _), Nat.add_sub_cancel_left, List.getElem?_map, List.getElem?_eq_getElem hx2, Option.map_some, Option.getD_some, renum] at hy ⊢
  obtain ⟨z, hz, rfl⟩ := List.mem_map.1 hy
  exact ⟨z, hz, rfl⟩
theorem joinS_good_nodes (ha : Good a) (hb : Good b) : ∀ n ∈ (joinS a b).nodes, goodNd (joinS a b).nodes.length n = true := fun n hn => by
  rw [joinS_len]
  rw [joinS_nodes] at hn
  rcases List.mem_append.1 hn with h | h
  · have hg := ha.node n h
    exact goodNd_args hg rfl rfl rfl rfl (fun x hx => by have := (good_args hg).1 x hx; omega)
  · obtain ⟨n0, h0, rfl⟩ := List.mem_map.1 h
    have hg := hb.node n0 h0
    refine goodNd_args hg rfl rfl rfl (by simp [renum]) (fun x hx => ?_)
    obtain ⟨z, hz, rfl⟩ := List.mem_map.1 hx
    have := (good_args hg).1 z hz
    omega
theorem left_good (ha : Good a) (hb : Good b) (hs : a.nodes.length + b.nodes.length ≤ 4096) : Good ⟨(joinS a b).nodes, a.roots⟩ :=
  ⟨by show (joinS a b).nodes.length ≤ 4096; rw [joinS_len]; exact hs, ha.roots, joinS_good_nodes ha hb, fun x hx => by
    have := ha.root x hx
    show 0 ≤ x ∧ x < ((joinS a b).nodes.length : Int)
    rw [joinS_len]
    omega⟩
theorem right_good (ha : Good a) (hb : Good b) (hs : a.nodes.length + b.nodes.length ≤ 4096) : Good ⟨(joinS a b).nodes, b.roots.map (fun x => (a.nodes.length : Int) + x)⟩ :=
  ⟨by show (joinS a b).nodes.length ≤ 4096; rw [joinS_len]; exact hs, by simpa using hb.roots, joinS_good_nodes ha hb, fun x hx => by
    obtain ⟨z, hz, rfl⟩ := List.mem_map.1 hx
    have := hb.root z hz
    show 0 ≤ (a.nodes.length : Int) + z ∧ (a.nodes.length : Int) + z < ((joinS a b).nodes.length : Int)
    rw [joinS_len]
    omega⟩
theorem join_good2 (ha : Good a) (hb : Good b) (hs : a.nodes.length + b.nodes.length ≤ 4096) (hr : a.roots.length + b.roots.length ≤ 4096) : Good (joinS a b) :=
  ⟨by rw [joinS_len]; exact hs, by simpa [joinS] using hr, joinS_good_nodes ha hb, fun x hx => by
    rcases List.mem_append.1 hx with h | h
    · exact (left_good ha hb hs).root x h
    · exact (right_good ha hb hs).root x h⟩
theorem left_met (ha : Good a) : ∀ x ∈ metF ⟨(joinS a b).nodes, a.roots⟩, 0 ≤ x ∧ x < (a.nodes.length : Int) :=
  meet_in (fun x => 0 ≤ x ∧ x < (a.nodes.length : Int)) (fun x hx y hy => by
    have e : (⟨(joinS a b).nodes, a.roots⟩ : Gf).argsOf x = (joinS a b).argsOf x := rfl
    rw [e, joinS_left hx.1 hx.2] at hy
    exact (ha.args hx.1 hx.2).1 y hy) _ _ _ ha.root (by simp)
theorem right_met (hb : Good b) : ∀ x ∈ metF ⟨(joinS a b).nodes, b.roots.map (fun x => (a.nodes.length : Int) + x)⟩, (a.nodes.length : Int) ≤ x ∧ x < ((joinS a b).nodes.length : Int) :=
  meet_in (fun x => (a.nodes.length : Int) ≤ x ∧ x < ((joinS a b).nodes.length : Int)) (fun x hx y hy => by
    have e : (⟨(joinS a b).nodes, b.roots.map (fun x => (a.nodes.length : Int) + x)⟩ : Gf).argsOf x = (joinS a b).argsOf x := rfl
    rw [e] at hy
    obtain ⟨z, hz, rfl⟩ := joinS_right hx.1 hx.2 y hy
    rw [joinS_len] at hx ⊢
    have := (hb.args (x := x - a.nodes.length) (by omega) (by omega)).1 z hz
    omega) _ _ _ (fun x hx => by
    obtain ⟨z, hz, rfl⟩ := List.mem_map.1 hx
    have := hb.root z hz
    rw [joinS_len]
    omega) (by simp)
theorem join_path (ha : Good a) : ∀ (path : List Int) (x : Int), 0 ≤ x → x < (a.nodes.length : Int) → goF (joinS a b) x path = goF a x path
  | [], _, _, _ => rfl
  | s :: r, x, h0, h1 => by
    have e := joinS_left (b := b) h0 h1
    simp only [goF, e]
    split
    · rfl
    · rename_i hs
      have hlt : s.toNat < (a.argsOf x).length := by omega
      have := (ha.args h0 h1).1 _ (getD_mem hlt)
      exact join_path ha r _ this.1 this.2
end
/-- Join of two small graphs refuses just where one of them is not good. -/
theorem joinC_two (a b : Gf) (h1 : a.nodes.length + b.nodes.length ≤ 4096) (h2 : a.roots.length + b.roots.length ≤ 4096) :
    (joinC [a, b] = [] ∧ Good a ∧ Good b) ∨ (joinC [a, b] ≠ [] ∧ (one (chk a) ≠ [] ∨ (one (chk a) = [] ∧ one (chk b) ≠ []))) := by
  have t1 : totN [a, b] = a.nodes.length + b.nodes.length := by simp [totN]
  have t2 : totR [a, b] = a.roots.length + b.roots.length := by simp [totR]
  by_cases ga : one (chk a) = []
  · by_cases gb : one (chk b) = []
    · refine Or.inl ⟨?_, chk_good ga, chk_good gb⟩
      have hx : ixOf badG [a, b] = -1 := by simp [ixOf, badG, ga, gb]
      unfold joinC
      rw [hx, if_neg (by omega), if_neg (by omega), if_neg (by omega)]
    · refine Or.inr ⟨?_, Or.inr ⟨ga, gb⟩⟩
      have hx : ixOf badG [a, b] = 1 := by simp [ixOf, badG, ga, gb]
      unfold joinC
      rw [hx, if_pos (by omega)]
      simp
  · refine Or.inr ⟨?_, Or.inl ga⟩
    have hx : ixOf badG [a, b] = 0 := by simp [ixOf, badG, ga]
    unfold joinC
    rw [hx, if_pos (by omega)]
    simp
end Go.Proofs.Ytllafbghomohhaa

/- Which nodes are variables. -/
namespace Go.Proofs.Ytllafbghomohhaa
open Go.RowKit

/-- Is it a variable? -/
def isVar (g : Gf) (x : Int) : Bool := decide ((g.nodes.getD x.toNat nd0).kind = 1)
theorem filter_snoc (p : Int → Bool) {l : List Int} {k : Nat} (h : k < l.length) : (l.take (k + 1)).filter p = if p (l.getD k 0) = true then (l.take k).filter p ++ [l.getD k 0] else (l.take k).filter p := by
  rw [take_snoc h, List.filter_append]
  generalize l.getD k 0 = x
  by_cases e : p x = true
  · rw [if_pos e, List.filter_cons_of_pos e]
    rfl
  · rw [if_neg e, List.filter_cons_of_neg e]
    simp
end Go.Proofs.Ytllafbghomohhaa

/- Copies, least graphs and trimmed graphs: what is alike to what, as plain mathematics. -/
namespace Go.Proofs.Ytllafbghomohhaa
open Go.RowKit

section
variable {g : Gf}
theorem two_left {x : Int} (hx : isN g x) : (joinS g g).nd x = g.nd x := by
  have h : x.toNat < g.nodes.length := by have := hx.1; have := hx.2; omega
  unfold Gf.nd
  rw [joinS_nodes]
  simp [List.getD, List.getElem?_append_left h]
theorem two_right {x : Int} (hx : isN g x) : (joinS g g).nd ((g.nodes.length : Int) + x) = renum (fun y => (g.nodes.length : Int) + y) (g.nd x) := by
  have h0 := hx.1
  have h : x.toNat < g.nodes.length := by have := hx.2; omega
  have e : ((g.nodes.length : Int) + x).toNat = g.nodes.length + x.toNat := by omega
  unfold Gf.nd
  rw [joinS_nodes, e]
  simp [List.getD, h]
theorem two_isN1 {x : Int} (hx : isN g x) : isN (joinS g g) x := ⟨hx.1, by rw [joinS_len]; have := hx.2; omega⟩
theorem two_isN2 {x : Int} (hx : isN g x) : isN (joinS g g) ((g.nodes.length : Int) + x) := ⟨by have := hx.1; omega, by rw [joinS_len]; have := hx.2; omega⟩
theorem two_arg1 {x : Int} (hx : isN g x) (k : Nat) : (joinS g g).arg x k = g.arg x k := by
  unfold Gf.arg
  rw [two_left hx]
theorem two_arg2 {x : Int} (hx : isN g x) {k : Nat} (hk : k < (g.nd x).args.length) : (joinS g g).arg ((g.nodes.length : Int) + x) k = (g.nodes.length : Int) + g.arg x k := by
  unfold Gf.arg
  rw [two_right hx]
  simp [renum, List.getD, hk]
/-- The graph with one root. -/
def rootAt (g : Gf) (i : Nat) : Gf := ⟨g.nodes, [(i : Int)]⟩
theorem rootAt_good (hg : Good g) {i : Nat} (hi : i < g.nodes.length) : Good (rootAt g i) :=
  ⟨hg.nodes, by simp [rootAt], hg.node, fun x hx => by
    have : x = (i : Int) := by simpa [rootAt] using hx
    subst this
    show 0 ≤ (i : Int) ∧ (i : Int) < (g.nodes.length : Int)
    omega⟩
theorem copy_al (hg : Good g) {i : Nat} (hi : i < g.nodes.length) : Al (joinS g g) (i : Int) ((g.nodes.length : Int) + (i : Int)) ↔ (metF (rootAt g i)).filter (isVar (rootAt g i)) = [] := by
  have ho := rootAt_good hg hi
  have hrng : ∀ x ∈ metF (rootAt g i), isN g x := fun x hx => (met_ok ho).rng x hx
  constructor
  · intro h
    have hall : ∀ x ∈ metF (rootAt g i), isN g x ∧ Al (joinS g g) x ((g.nodes.length : Int) + x) := by
      refine meet_in (fun x => isN g x ∧ Al (joinS g g) x ((g.nodes.length : Int) + x)) (fun x hx y hy => ?_) _ _ _ (fun x hx => ?_) (by simp)
      · obtain ⟨hn, hal⟩ := hx
        obtain ⟨k, hk, rfl⟩ := list_mem_getD hy
        have hk' : k < (g.nd x).args.length := hk
        have ha := (al_sim _ _ _ hal).2.2.2 k (by rw [two_left hn]; exact hk')
        rw [two_arg1 hn, two_arg2 hn hk'] at ha
        exact ⟨arg_isN hg hn hk', ha⟩
      · have e : x = (i : Int) := by simpa [rootAt] using hx
        subst e
        exact ⟨⟨by omega, by omega⟩, h⟩
    rw [List.filter_eq_nil_iff]
    intro x hx hv
    obtain ⟨hn, hal⟩ := hall x hx
    have hl := (al_sim _ _ _ hal).2.2.1
    have hk : ((joinS g g).nd x).kind = 1 := by
      rw [two_left hn]
      simpa [isVar, rootAt, Gf.nd] using hv
    have := hl.2.2.2.2 hk
    omega
  · intro h
    rw [List.filter_eq_nil_iff] at h
    refine ⟨fun x y => x ∈ metF (rootAt g i) ∧ y = (g.nodes.length : Int) + x, fun x y hxy => ?_, met_root ho _ (by simp [rootAt]), rfl⟩
    obtain ⟨hx, rfl⟩ := hxy
    have hn := hrng x hx
    refine ⟨two_isN1 hn, two_isN2 hn, ?_, fun k hk => ?_⟩
    · unfold labE
      rw [two_left hn, two_right hn]
      refine ⟨rfl, rfl, rfl, by simp [renum], fun e => ?_⟩
      have := h x hx
      exact absurd (by simpa [isVar, rootAt, Gf.nd] using e) this
    · rw [two_left hn] at hk
      rw [two_arg1 hn, two_arg2 hn hk]
      exact ⟨met_arg ho x hx _ (getD_mem hk), rfl⟩
/-- Each node of the least graph is the number of a node that is met. -/
theorem least_sur (hg : Good g) {e : Nat → Nat → Bool} (hd : ∀ x y : Nat, (e x y = true ↔ Al g (x : Int) (y : Int))) {u : Int} (hu : isN (trimF (quoF e g)) u) : ∃ x ∈ metF g, lstI e g x = u := by
  have hq := quo_good hg (al_eqv hg hd)
  have hl := trim_len hq
  have h0 := hu.1
  have h1 := hu.2
  rw [hl] at h1
  have hc : ∀ c ∈ metF (quoF e g), ∃ x, x ∈ metF g ∧ clsI e g.nodes.length x = c := by
    refine meet_in (fun c => ∃ x, x ∈ metF g ∧ clsI e g.nodes.length x = c) (fun c hx y hy => ?_) _ _ _ (fun c hx => ?_) (by simp)
    · obtain ⟨x, hx, rfl⟩ := hx
      have hn : isN g x := (met_ok hg).rng x hx
      have hy' : y ∈ ((quoF e g).nd (clsI e g.nodes.length x)).args := hy
      rw [quo_nd hg hd hn] at hy'
      obtain ⟨z, hz, rfl⟩ := List.mem_map.1 hy'
      exact ⟨z, met_arg hg x hx z hz, rfl⟩
    · obtain ⟨z, hz, rfl⟩ := List.mem_map.1 hx
      exact ⟨z, met_root hg z hz, rfl⟩
  have hm : u.toNat < (metF (quoF e g)).length := by omega
  obtain ⟨x, hx, ex⟩ := hc _ (getD_mem hm)
  refine ⟨x, hx, ?_⟩
  unfold lstI
  rw [ex]
  unfold posF
  rw [if_pos (getD_mem hm), pos_of_getD (met_ok hq).nodup hm]
  omega
theorem least_pair (hg : Good g) {e : Nat → Nat → Bool} (hd : ∀ x y : Nat, (e x y = true ↔ Al g (x : Int) (y : Int))) : Pr (trimF (quoF e g)) g (fun u x => x ∈ metF g ∧ u = lstI e g x) := by
  refine ⟨fun u x ⟨hx, hu⟩ => ⟨by rw [hu]; exact least_rng hg hd hx, (met_ok hg).rng x hx⟩, fun u x ⟨hx, hu⟩ => ?_, fun u x ⟨hx, hu⟩ k hk => ?_, fun u x x' ⟨hx, hu⟩ ⟨hx', hu'⟩ hk => ?_, fun u u' x ⟨_, hu⟩ ⟨_, hu'⟩ _ => hu.trans hu'.symm, ?_, fun i hi => ?_⟩
  · subst hu
    rw [least_nd hg hd hx]
    exact ⟨rfl, rfl, rfl, by simp [renum]⟩
  · subst hu
    rw [least_nd hg hd hx] at hk
    have hk' : k < (g.nd x).args.length := by simpa [renum] using hk
    refine ⟨met_argk hg hx hk', ?_⟩
    unfold Gf.arg
    rw [least_nd hg hd hx]
    simp [renum, List.getD, hk']
  · subst hu
    have hal := (least_al hg hd hx hx').1 hu'
    rw [least_nd hg hd hx] at hk
    exact (al_sim g x x' hal).2.2.1.2.2.2.2 hk
  · rw [least_root]
    simp
  · rw [least_root] at hi ⊢
    have hi' : i < g.roots.length := by simpa using hi
    exact ⟨metF_root hg hi', by simp [List.getD, hi']⟩
theorem least_own (hg : Good g) {e : Nat → Nat → Bool} (hd : ∀ x y : Nat, (e x y = true ↔ Al g (x : Int) (y : Int))) {u v : Int} (h : Al (trimF (quoF e g)) u v) : u = v := by
  obtain ⟨hu, hv, _⟩ := al_sim _ _ _ h
  obtain ⟨x, hx, rfl⟩ := least_sur hg hd hu
  obtain ⟨y, hy, rfl⟩ := least_sur hg hd hv
  exact (least_al hg hd hx hy).2 ((least_pair hg hd).al ⟨hx, rfl⟩ ⟨hy, rfl⟩ h)
theorem trim_pair (hg : Good g) : Pr (trimF g) g (fun u x => x ∈ metF g ∧ u = posF (metF g) x) := by
  refine ⟨fun u x ⟨hx, hu⟩ => ⟨?_, (met_ok hg).rng x hx⟩, fun u x ⟨hx, hu⟩ => ?_, fun u x ⟨hx, hu⟩ k hk => ?_, fun u x x' ⟨hx, hu⟩ ⟨hx', hu'⟩ _ => pos_inj hg x hx x' hx' (hu.symm.trans hu'), fun u u' x ⟨_, hu⟩ ⟨_, hu'⟩ _ => hu.trans hu'.symm, by simp [trimF], fun i hi => ?_⟩
  · subst hu
    have := pos_rng hg x hx
    exact ⟨this.1, by rw [trim_len hg]; exact this.2⟩
  · subst hu
    have := trim_node hg x hx
    show ((trimF g).nodes.getD _ nd0).kind = _ ∧ ((trimF g).nodes.getD _ nd0).name = _ ∧ ((trimF g).nodes.getD _ nd0).num = _ ∧ ((trimF g).nodes.getD _ nd0).args.length = _
    rw [this]
    exact ⟨rfl, rfl, rfl, by simp [renum]; rfl⟩
  · subst hu
    have hnd : (trimF g).nd (posF (metF g) x) = renum (posF (metF g)) (g.nd x) := trim_node hg x hx
    rw [hnd] at hk
    have hk' : k < (g.nd x).args.length := by simpa [renum] using hk
    refine ⟨met_argk hg hx hk', ?_⟩
    unfold Gf.arg
    rw [hnd]
    simp [renum, List.getD, hk']
  · have hi' : i < g.roots.length := by simpa [trimF] using hi
    exact ⟨metF_root hg hi', by simp [trimF, List.getD, hi']⟩
end
theorem own_num {e : Nat → Nat → Bool} {N : Nat} (he : ∀ x y, x < N → y < N → e x y = true → x = y) : ∀ m, m ≤ N → csF e m = List.range m ∧ lsF e m = List.range m
  | 0, _ => ⟨rfl, rfl⟩
  | m + 1, hm => by
    obtain ⟨h1, h2⟩ := own_num he m (by omega)
    have hf : fnd (e m) (lsF e m) = m := by
      rw [h2, fnd_miss (fun x hx => ?_), List.length_range]
      have hx' := List.mem_range.1 hx
      cases h : e m x
      · rfl
      · have := he m x (by omega) (by omega) h
        omega
    rw [csF_succ, lsF_succ, hf, h1, h2, List.length_range, if_pos rfl, List.range_succ]
    exact ⟨rfl, rfl⟩
end Go.Proofs.Ytllafbghomohhaa

/- hanging of package solve's merge. -/
namespace Go.Proofs.Ytllafbghomohhaa
open Go.RowKit

/-- How many of the first j nodes a node stands for. -/
def cntN (E : Nat → Nat) (m : Nat) : Nat → Nat
  | 0 => 0
  | j + 1 => cntN E m j + if E j = m then 1 else 0
theorem cntN_le (E : Nat → Nat) (m : Nat) : ∀ j, cntN E m j ≤ j
  | 0 => Nat.le_refl _
  | j + 1 => by
    have := cntN_le E m j
    unfold cntN
    split <;> omega
def cntL (E : Nat → Nat) (N j : Nat) : List Nat := (List.range N).map (fun m => cntN E m j)
theorem cntL_len (E : Nat → Nat) (N j : Nat) : (cntL E N j).length = N := by simp [cntL]
theorem cntL_get {E : Nat → Nat} {N j m : Nat} (h : m < N) : (cntL E N j).getD m 0 = cntN E m j := by simp [cntL, List.getD, h]
theorem cntL_zero (E : Nat → Nat) (N : Nat) : (ints (cntL E N 0)).map (Value.int .i64) = List.replicate N (.int .i64 0) := by
  apply List.ext_getElem?
  intro i
  by_cases h : i < N
  · simp [ints, cntL, cntN, h]
  · simp [ints, cntL, h]
theorem cntL_step {E : Nat → Nat} {N j : Nat} (h : E j < N) : (cntL E N j).set (E j) (cntN E (E j) j + 1) = cntL E N (j + 1) := by
  apply List.ext_getElem?
  intro i
  by_cases hi : i < N
  · by_cases e : i = E j
    · subst e
      rw [List.getElem?_set_self (by rw [cntL_len]; exact h)]
      simp [cntL, cntN, h]
    · rw [List.getElem?_set_ne (fun h => e h.symm)]
      have : ¬ E j = i := fun h => e h.symm
      simp [cntL, cntN, hi, this]
  · rw [List.getElem?_eq_none (by rw [List.length_set, cntL_len]; omega), List.getElem?_eq_none (by rw [cntL_len]; omega)]
/-- The variables that stand not for themselves alone, among the first. -/
def hangF (ns : List Nd) (E : Nat → Nat) : Nat → List Nat
  | 0 => []
  | j + 1 => hangF ns E j ++ if (ndN ns j).kind = 1 ∧ 1 < cntN E (E j) ns.length then [j] else []
theorem hangF_le (ns : List Nd) (E : Nat → Nat) : ∀ j, (hangF ns E j).length ≤ j
  | 0 => Nat.le_refl _
  | j + 1 => by
    have := hangF_le ns E j
    unfold hangF
    rw [List.length_append]
    split <;> simp <;> omega
theorem row_mo {wr w5 : World} {S : Nat} {lv : Value} (hz : ∀ k, lv.ownBlock = some k → k < S) (hm : Mo (fun k => lv.ownBlock = some k) wr w5) {e : TypeId} {z : Nat} {v : Value} {n : Nat} {xs : List Value} (ho : wr.ownsRow S e z v n xs) : w5.ownsRow S e z v n xs :=
  row_keep ho (fun k hk => hm.block k (ho.lt k hk).2 (fun e => by have h1 := hz k e; have h2 := (ho.lt k hk).1; omega))
set_option maxRecDepth 100000 in
set_option maxHeartbeats 8000000 in
theorem shang_any {W0 w : World} {mb : Nat} {nv lv : Value} {ns : List Nd} {L : List Nat} {E : Nat → Nat} (h : Mg W0 w mb nv lv ns L) (hE : Ld L E) (hN : ns.length ≤ 10000) :
    Calls Try.prog 33 #[.pointer (some ⟨mb, 0, none⟩)] w fun e w' => (∃ ao c, e = .returned (.slice ao (hangF ns E ns.length).length c) ∧ w'.ownsRow w.heap.size 3 1 (.slice ao (hangF ns E ns.length).length c) (hangF ns E ns.length).length ((ints (hangF ns E ns.length)).map (Value.int .i64))) ∧ MgL W0 w w' mb nv lv ns E := by
  obtain ⟨i0, hi, hz0, hz1, hz2⟩ := info_parts infoI
  have hkl : Hid (mb < w.heap.size ∧ ∀ k, lv.ownBlock = some k → k < w.heap.size) := ⟨lt_of_block h.blk, fun k hk => (h.l.lt k hk).2⟩
  have hW0 : Hid (W0.heap.size ≤ w.heap.size) := h.bel.size
  have HN := hid (fun x (hx : x < ns.length) => h.node hx)
  have hEr : Hid (∀ x, x < ns.length → E x < ns.length) := fun x hx => by rw [← h.ll]; exact hE.erng x (by rw [h.ll]; exact hx)
  have hS0 : Hid (MgL W0 w w mb nv lv ns E) := ⟨L, h, hE, Mo.refl _ _⟩
  obtain ⟨na, nc, rfl, _⟩ := h.nd
  obtain ⟨⟨k0, k1⟩, _⟩ := blk2y h.blk
  have hzm := lt_of_block h.blk
  clear h hE
  go_enter Try.func33, Try.ntmps33
  go_wp2_with (at_make; refine wpList_make_full _ rfl _ _ 23 rfl w.heap.size 3 i0 (.int .i64 0) 1 Try.underlying23 hi hz0 hz1 .i64 .i64 _ _ ns.length rfl rfl rfl rfl (by rw [hz2]; omega) (by unfold maxLen; omega) (Nat.le_refl _) ?_; intro w1 hown1 hgrow1; have hb1 := hid ((Below.refl w.heap.size w).grown hgrow1 (Nat.le_refl _) (fun _ e => by cases e)); have ho1 := hid hown1; have hs1 := (hown1.lt w.heap.size rfl).2; have hm1 := (hb1.out.block mb hkl.out.1); have q0 : w1.cell? ⟨mb, 0, none⟩ = some (.slice na ns.length nc) := (hb1.out.cell (p := ⟨mb, 0, none⟩) hkl.out.1).trans k0; have hzq := lt_of_cell q0; clear hown1 hgrow1 hm1)
  have hR0 : Hid (w1.ownsRow w.heap.size 3 1 (.slice (some ⟨w.heap.size, 0, none⟩) ns.length ns.length) ns.length ((ints (cntL E ns.length 0)).map (Value.int .i64))) := by
    have h9 := ho1.out
    rw [show (madeCells (Value.int .i64 0).cells (ns.length * 1)).toList = List.replicate ns.length (.int .i64 0) by rw [Nat.mul_one]; simp [Value.cells, toList_madeCells_one]] at h9
    rw [cntL_zero]
    exact h9
  have hS1 : Hid (MgL W0 w w1 mb (.slice na ns.length nc) lv ns E) := MgL.far hkl.out hW0.out hS0.out hb1.out
  clear ho1 hS0 hb1 k0 k1
  go_loopw [19] (fun i wr => ∃ j : Nat, j ≤ ns.length ∧ i = .int .i64 (j : Int) ∧ Hid (MgL W0 w wr mb (.slice na ns.length nc) lv ns E) ∧ Hid (wr.ownsRow w.heap.size 3 1 (.slice (some ⟨w.heap.size, 0, none⟩) ns.length ns.length) ns.length ((ints (cntL E ns.length j)).map (Value.int .i64)))) (fun i _ => ns.length - (intOf i).toNat)
  case atStart => exact ⟨0, Nat.zero_le _, rfl, hS1, hR0⟩
  case round =>
    clear hS1 hR0
    obtain ⟨j, hj, rfl, hS, hR⟩ := hrel
    by_cases hlt : j < ns.length
    · have hji : (j : Int) < (ns.length : Int) := by omega
      obtain ⟨L1, hm1, hl1⟩ := hS.out.mg
      have hcall := hid (send_any hm1 hl1 j hlt)
      have hEj := hEr.out j hlt
      have hEji : ((E j : Nat) : Int) < (ns.length : Int) := by omega
      have hcl := cntN_le E (E j) j
      have hnx : Hid (∀ w5, MgL W0 wr w5 mb (.slice na ns.length nc) lv ns E → (w5.cell? ⟨w.heap.size, E j, none⟩ = some (.int .i64 ((cntN E (E j) j : Nat) : Int)) ∧ w5.frozen? ⟨w.heap.size, E j, none⟩ = false ∧ w.heap.size < w5.heap.size) ∧ MgL W0 w (w5.setCell ⟨w.heap.size, E j, none⟩ (.int .i64 ((cntN E (E j) j : Nat) + 1 : Int))) mb (.slice na ns.length nc) lv ns E ∧ (w5.setCell ⟨w.heap.size, E j, none⟩ (.int .i64 ((cntN E (E j) j : Nat) + 1 : Int))).ownsRow w.heap.size 3 1 (.slice (some ⟨w.heap.size, 0, none⟩) ns.length ns.length) ns.length ((ints (cntL E ns.length (j + 1))).map (Value.int .i64))) := fun w5 hL5 => by
        have hR5 := row_mo hkl.out.2 hL5.mo hR.out
        have hc : w5.cell? ⟨w.heap.size, E j, none⟩ = some (.int .i64 ((cntN E (E j) j : Nat) : Int)) := by
          rw [hR5.cellAt (E j) (by omega), ints_at (by rw [cntL_len]; exact hEj), cntL_get hEj]
        refine ⟨⟨hc, hR5.frozenAt (E j), lt_of_cell hc⟩, MgL.far hkl.out hW0.out (MgL.trans hS.out.mo hL5) ((Below.refl _ _).setCell (p := ⟨w.heap.size, E j, none⟩) (Nat.le_refl _) _), ?_⟩
        have h2 := (World.ownsRow.stored hR5 (E j) (.int .i64 ((cntN E (E j) j + 1 : Nat) : Int))).1
        rw [ints_set, cntL_step hEj] at h2
        rw [Int.natCast_add] at h2
        exact h2
      clear hS hR hm1 hl1
      generalize cntN E (E j) j = cn at *
      go_wp2_with (go_at_call 55; refine hcall.out.mono ?_; rintro e w5 ⟨rfl, hL5⟩; obtain ⟨⟨u0, u1, u2⟩, hf1, hf2⟩ := hnx.out w5 hL5; have hf1' := hid hf1; have hf2' := hid hf2; clear hf1 hf2 hL5)
      go_roundw
      case rel => exact ⟨j + 1, by omega, by go_num, hf1', hf2'⟩
      case measure => simp [intOf]; omega
    · obtain rfl : j = ns.length := by omega
      obtain ⟨w0, hw0⟩ : ∃ w0, w0 = wr := ⟨_, rfl⟩
      subst hw0
      obtain ⟨_, _, hmk⟩ := mgl_bel hS.out
      have hzk := lt_of_block hmk
      obtain ⟨⟨k0, k1⟩, _⟩ := blk2y hmk
      clear hmk q0 hzq
      have hO0 : Hid (w0.ownsRow w.heap.size 3 1 (.slice none (hangF ns E 0).length 0) (hangF ns E 0).length ((ints (hangF ns E 0)).map (Value.int .i64))) := World.ownsRow_nil _ _ _ _
      have hSS := hid hS.out
      have hRR := hid hR.out
      clear hS hR
      go_wp2
      go_loopw [5, 36] (fun x i wr => ∃ (j : Nat) (ao : Option Addr) (c : Nat), j ≤ ns.length ∧ i = .int .i64 (j : Int) ∧ x = .slice ao (hangF ns E j).length c ∧ Hid (MgL W0 w wr mb (.slice na ns.length nc) lv ns E) ∧ Hid (wr.ownsRow w.heap.size 3 1 (.slice (some ⟨w.heap.size, 0, none⟩) ns.length ns.length) ns.length ((ints (cntL E ns.length ns.length)).map (Value.int .i64))) ∧ Hid (wr.ownsRow w.heap.size 3 1 (.slice ao (hangF ns E j).length c) (hangF ns E j).length ((ints (hangF ns E j)).map (Value.int .i64))) ∧ Hid (ao ≠ some ⟨w.heap.size, 0, none⟩)) (fun _ i _ => ns.length - (intOf i).toNat)
      case atStart => exact ⟨0, none, 0, Nat.zero_le _, rfl, rfl, hSS, hRR, hO0, fun e => by cases e⟩
      case round =>
        clear hSS hRR hO0 k0 k1 hzk
        obtain ⟨j, ao, c, hj, rfl, rfl, hS, hR, hO, hne⟩ := hrel
        by_cases hlt : j < ns.length
        · have hji : (j : Int) < (ns.length : Int) := by omega
          obtain ⟨nb, no, nc2, aa, ac, hnv, hNd⟩ := HN.out j hlt
          injection hnv with u1 _ u3
          subst u1 u3
          obtain ⟨d0, d1, d2, d3, hzn, dA⟩ := hNd wr hS.out.bel
          have hEj := hEr.out j hlt
          have hEji : ((E j : Nat) : Int) < (ns.length : Int) := by omega
          have hhl := hangF_le ns E j
          have hstep : Hid (hangF ns E (j + 1) = hangF ns E j ++ if (ndN ns j).kind = 1 ∧ 1 < cntN E (E j) ns.length then [j] else []) := show _ = _ from rfl
          clear dA hNd
          generalize hcn : cntN E (E j) ns.length = cn at *
          have hcnl := cntN_le E (E j) ns.length
          rw [hcn] at hcnl
          generalize ndN ns j = nd at *
          obtain ⟨kd, nm, nu, args⟩ := nd
          dsimp only at d0 d1 d2 d3 hstep
          have hbx := hid (below_alloc wr (.cells #[.int .i64 kd, .string nm, .int .i64 nu, .slice aa args.length ac] 56))
          have hS1 := hid (hS.out.next hbx.out)
          have hR1 := hid (World.ownsRow.alloc hR.out (.cells #[.int .i64 kd, .string nm, .int .i64 nu, .slice aa args.length ac] 56))
          have hO1 := hid (World.ownsRow.alloc hO.out (.cells #[.int .i64 kd, .string nm, .int .i64 nu, .slice aa args.length ac] 56))
          have hszr := hS.out.mo.size
          by_cases hkd : kd = 1
          · subst hkd
            obtain ⟨L1, hm1, hl1⟩ := hS1.out.mg
            have hcall := hid (send_any hm1 hl1 j hlt)
            have hnx : Hid (∀ w5, MgL W0 (wr.alloc (.cells #[.int .i64 1, .string nm, .int .i64 nu, .slice aa args.length ac] 56)) w5 mb (.slice (some ⟨nb, no, none⟩) ns.length nc) lv ns E → (w5.cell? ⟨w.heap.size, E j, none⟩ = some (.int .i64 (cn : Int)) ∧ w.heap.size < w5.heap.size) ∧ MgL W0 w w5 mb (.slice (some ⟨nb, no, none⟩) ns.length nc) lv ns E ∧ w5.ownsRow w.heap.size 3 1 (.slice (some ⟨w.heap.size, 0, none⟩) ns.length ns.length) ns.length ((ints (cntL E ns.length ns.length)).map (Value.int .i64)) ∧ w5.ownsRow w.heap.size 3 1 (.slice ao (hangF ns E j).length c) (hangF ns E j).length ((ints (hangF ns E j)).map (Value.int .i64))) := fun w5 hL5 => by
              have hR5 := row_mo hkl.out.2 hL5.mo hR1.out
              have hc : w5.cell? ⟨w.heap.size, E j, none⟩ = some (.int .i64 (cn : Int)) := by
                rw [hR5.cellAt (E j) (by omega), ints_at (by rw [cntL_len]; exact hEj), cntL_get hEj, hcn]
              exact ⟨⟨hc, lt_of_cell hc⟩, MgL.trans hS1.out.mo hL5, hR5, row_mo hkl.out.2 hL5.mo hO1.out⟩
            clear hS hR hO hS1 hR1 hO1 hm1 hl1 hbx hcn
            by_cases hc1 : 1 < cn
            · have hc1' : (1 : Int) < (cn : Int) := by omega
              have hst2 : Hid (hangF ns E (j + 1) = hangF ns E j ++ [j]) := by
                have := hstep.out
                rw [if_pos ⟨rfl, hc1⟩] at this
                exact this
              clear hstep
              generalize hangF ns E j = H0 at *
              go_wp2_with (first
                | (go_at_call 55; refine hcall.out.mono ?_; rintro e w5 ⟨rfl, hL5⟩; obtain ⟨⟨u0, u2⟩, hf1, hf2, hf3⟩ := hnx.out w5 hL5; have hf1' := hid hf1; have hf2' := hid hf2; have hf3' := hid hf3; have hf4 := World.ownsRow.alloc hf3 (.cells #[.int .i64 (j : Int)] 3); clear hf1 hf2 hf3 hL5)
                | (at_builtin; go_must (refine wpList_append_lies _ rfl _ _ 23 rfl w.heap.size 3 i0 (.int .i64 0) 1 8 Try.underlying23 hi hz0 hz1 hz2 rfl (by decide) _ H0.length _ rfl hf4 ⟨w5.heap.size, 0, none⟩ 1 1 [.int .i64 (j : Int)] rfl rfl (cell_one_new w5 _ _) (by simp [Value.oneCell']) (by decide) (by unfold maxLen; omega) (by omega) (by simp; omega) _ rfl ?_; intro g cap w6 hown6 hg6 hat6 hlt6)))
              have hgz : Hid (w.heap.size < w6.heap.size ∧ MgL W0 w w6 mb (.slice (some ⟨nb, no, none⟩) ns.length nc) lv ns E ∧ w6.ownsRow w.heap.size 3 1 (.slice (some ⟨w.heap.size, 0, none⟩) ns.length ns.length) ns.length ((ints (cntL E ns.length ns.length)).map (Value.int .i64)) ∧ some (⟨g, 0, none⟩ : Addr) ≠ some ⟨w.heap.size, 0, none⟩) := by
                have hs6 := hg6.size
                simp at hs6
                have hob : ∀ k, (Value.slice ao H0.length c).ownBlock = some k → k ≠ w.heap.size ∧ w.heap.size ≤ k := fun k hk => by
                  refine ⟨fun e => ?_, (hf3'.out.lt k hk).1⟩
                  rcases hf3'.out.2 with ⟨e1, _⟩ | ⟨g', cap', cur', e1, _⟩
                  · rw [e1] at hk; cases hk
                  · injection e1 with e2 _ _
                    subst e2
                    have e3 : g' = k := by simpa [Value.ownBlock] using hk
                    subst e3
                    exact hne.out (by rw [e])
                refine ⟨by omega, MgL.far hkl.out hW0.out hf1'.out (((Below.refl _ _).alloc (by omega) _).grown hg6 (by simp; omega) (fun k hk => (hob k hk).2)), ?_, fun e => ?_⟩
                · refine row_keep hf2'.out (fun k hk => ?_)
                  have ek : w.heap.size = k := by simpa [Value.ownBlock] using hk
                  subst ek
                  rw [hg6.block w.heap.size (by simp; omega) (fun e => (hob w.heap.size e.symm).1 rfl), Below.heap_alloc _ _ _ u2]
                · injection e with e
                  injection e with e _ _
                  rcases hat6 with h1 | h1
                  · exact (hob g h1).1 e
                  · simp at h1
                    omega
              obtain ⟨_, hS6, hR6, hn6⟩ := hgz.out
              go_roundw
              case rel => exact ⟨j + 1, some ⟨g, 0, none⟩, cap, by omega, by go_num, by rw [hst2.out, List.length_append]; rfl, hS6, hR6, (show World.ownsRow _ _ _ _ _ _ _ by rw [hst2.out, List.length_append]; simpa [ints] using hown6), hn6⟩
              case measure => simp [intOf]; omega
            · have hc1' : ¬ ((1 : Int) < (cn : Int)) := by omega
              have hst2 : Hid (hangF ns E (j + 1) = hangF ns E j) := by
                have := hstep.out
                rw [if_neg (fun h => hc1 h.2), List.append_nil] at this
                exact this
              clear hstep
              generalize hangF ns E j = H0 at *
              go_wp2_with (go_at_call 55; refine hcall.out.mono ?_; rintro e w5 ⟨rfl, hL5⟩; obtain ⟨⟨u0, u2⟩, hf1, hf2, hf3⟩ := hnx.out w5 hL5; have hf1' := hid hf1; have hf2' := hid hf2; have hf3' := hid hf3; clear hf1 hf2 hf3 hL5)
              go_roundw
              case rel => exact ⟨j + 1, ao, c, by omega, by go_num, by rw [hst2.out], hf1', hf2', (show World.ownsRow _ _ _ _ _ _ _ by rw [hst2.out]; exact hf3'.out), hne⟩
              case measure => simp [intOf]; omega
          · have hst2 : Hid (hangF ns E (j + 1) = hangF ns E j) := by
              have := hstep.out
              rw [if_neg (fun h => hkd h.1), List.append_nil] at this
              exact this
            clear hstep hS hR hO
            generalize hangF ns E j = H0 at *
            go_wp2
            go_roundw
            case rel => exact ⟨j + 1, ao, c, by omega, by go_num, by rw [hst2.out], hS1, hR1, (show World.ownsRow _ _ _ _ _ _ _ by rw [hst2.out]; exact hO1.out), hne⟩
            case measure => simp [intOf]; omega
        · obtain rfl : j = ns.length := by omega
          have hO9 := hid hO.out
          have hS9 := hid hS.out
          clear hO hS hR
          go_wp2
          go_ret
          exact ⟨⟨_, _, rfl, hO9.out⟩, hS9.out⟩
end Go.Proofs.Ytllafbghomohhaa
