/- Same, Quotient and Named of package bisim at a graph that Check refuses: Check's own fault. -/
import Derived.Test.YtllafbghomohhaaOBZ
import Derived.Test.YtllafbghomohhaaGrRef3
import Derived.Test.YtllafbghomohhaaOCZ
import Derived.Test.YtllafbghomohhaaGrTrim3
namespace Go.Proofs.Ytllafbghomohhaa
open Go.RowKit

set_option maxRecDepth 100000 in
set_option maxHeartbeats 1000000 in
theorem quot_bad {W : World} {nv rv : Value} {g : Gf} (hG : Gr W nv rv g) (hS : Sized g) (hb : one (chk g) ≠ []) :
    Calls Try.prog 24 #[.agg #[nv, rv]] W fun r w' => (∃ b, r = .returned (.tuple #[.agg #[.slice none 0 0, .slice none 0 0], .iface 70 (.pointer (some ⟨b, 0, none⟩))]) ∧ Er w' (.iface 70 (.pointer (some ⟨b, 0, none⟩))) (one (chk g))) ∧ Below W.heap.size W w' := by
  have hb2 : Below W.heap.size W ((W.alloc (.cells #[nv, rv] 25)).alloc (.cells #[.slice none 0 0, .slice none 0 0] 25)) := (below_alloc W _).alloc (by simp) _
  have hal := alike_bad (hG.below hb2) hS hb
  have hC : ∀ w1 : World, Below ((W.alloc (.cells #[nv, rv] 25)).alloc (.cells #[.slice none 0 0, .slice none 0 0] 25)).heap.size ((W.alloc (.cells #[nv, rv] 25)).alloc (.cells #[.slice none 0 0, .slice none 0 0] 25)) w1 →
      w1.heap[W.heap.size + 1]? = some (.cells #[.slice none 0 0, .slice none 0 0] 25) := fun w1 hb => by
    rw [hb.block _ (by simp)]
    simpa using heap_alloc_new (W.alloc (.cells #[nv, rv] 25)) (.cells #[.slice none 0 0, .slice none 0 0] 25)
  clear hG
  go_enter Try.func24, Try.ntmps24
  go_wp2_with (go_at_call 43; refine hal.mono ?_; rintro e w1 ⟨⟨b, rfl, hE⟩, hb1⟩; have k0 := hC w1 hb1; have c0 : w1.cell? ⟨W.heap.size + 1, 0, none⟩ = some (.slice none 0 0) := (by simp [World.cell?, k0]); have c1 : w1.cell? ⟨W.heap.size + 1, 1, none⟩ = some (.slice none 0 0) := (by simp [World.cell?, k0]); have f0 : w1.frozen? ⟨W.heap.size + 1, 0, none⟩ = false := (by simp [World.frozen?, k0]); have f1 : w1.frozen? ⟨W.heap.size + 1, 1, none⟩ = false := (by simp [World.frozen?, k0]))
  have hE1 := Er.far (i := 1) (v := .slice none 0 0) (Er.far (i := 0) (v := .slice none 0 0) hE k0 (by decide)) (blk2_set0 k0) (by decide)
  exact bodyPost_ret (ret_gr Try.results24 (by rfl) (by rfl) (blk2_set k0)) rfl ⟨⟨b, rfl, hE1⟩, ((Below.next hb2 hb1).setCell (by simp) _).setCell (by simp) _⟩
end Go.Proofs.Ytllafbghomohhaa

/- Same of package graph and of the reference: whether two graphs are one as data. -/
namespace Go.Proofs.Ytllafbghomohhaa
open Go.RowKit

theorem list_ext {l m : List Int} (h : l.length = m.length) (he : ∀ j, j < l.length → l.getD j 0 = m.getD j 0) : l = m := by
  apply List.ext_getElem h
  intro i h1 h2
  have := he i h1
  simpa [List.getD, h1, h2] using this
theorem nds_ext {l m : List Nd} (h : l.length = m.length) (he : ∀ j, j < l.length → l.getD j nd0 = m.getD j nd0) : l = m := by
  apply List.ext_getElem h
  intro i h1 h2
  have := he i h1
  simpa [List.getD, h1, h2] using this
theorem text_eq {a b : ByteArray} (h : a.toList = b.toList) : a = b := by
  rw [ByteArray.toList_eq, ByteArray.toList_eq] at h
  exact ByteArray.ext (Array.toList_inj.1 h)
set_option maxRecDepth 100000 in
set_option maxHeartbeats 1000000 in
/-- The same numbers, by the reference. -/
theorem rints_any {W : World} {u v : Value} {l m : List Int} (hu : Ri W u l) (hv : Ri W v m) (hl : l.length ≤ 5000) :
    Calls Try.prog 32 #[u, v] W fun e w' => e = .returned (.bool (decide (l = m))) ∧ Below W.heap.size W w' := by
  obtain ⟨ua, uc, rfl, hu⟩ := hu
  obtain ⟨va, vc, rfl, hv⟩ := hv
  by_cases hlen : l.length = m.length
  · have hln : (l.length : Int) = (m.length : Int) := by omega
    go_enter Try.func32, Try.ntmps32
    go_wp2
    go_loopw [5] (fun i wr => ∃ k : Nat, k ≤ l.length ∧ i = .int .i64 k ∧ Hid (Below W.heap.size W wr) ∧ Hid (∀ j, j < k → l.getD j 0 = m.getD j 0)) (fun i _ => l.length - (intOf i).toNat)
    case atStart => exact ⟨0, Nat.zero_le _, rfl, Below.refl _ _, fun j hj => absurd hj (Nat.not_lt_zero _)⟩
    case round =>
      obtain ⟨k, hk, rfl, hb, hp⟩ := hrel
      by_cases hlt : k < l.length
      · obtain ⟨ub, uo, rfl, hcu⟩ := hu k hlt
        obtain ⟨vb, vo, rfl, hcv⟩ := hv k (by omega)
        have du : wr.cell? ⟨ub, uo + k, none⟩ = some (.int .i64 (l.getD k 0)) := by rw [hb.out.cell (p := ⟨ub, uo + k, none⟩) (lt_of_cell hcu)]; exact hcu
        have dv : wr.cell? ⟨vb, vo + k, none⟩ = some (.int .i64 (m.getD k 0)) := by rw [hb.out.cell (p := ⟨vb, vo + k, none⟩) (lt_of_cell hcv)]; exact hcv
        by_cases he : l.getD k 0 = m.getD k 0
        · have hp' : Hid (∀ j, j < k + 1 → l.getD j 0 = m.getD j 0) := fun j hj => by
            rcases Nat.lt_or_eq_of_le (Nat.le_of_lt_succ hj) with h | h
            · exact hp.out j h
            · subst h; exact he
          rw [← he] at dv
          generalize l.getD k 0 = x at du dv
          clear hcu hcv hu hv he hp
          go_wp2
          go_quiet (fail)
          go_wp2
          go_roundw
          case rel => exact ⟨k + 1, by omega, congrArg (Value.int .i64) (by omega), below_drewN hb.out _, hp'⟩
          case measure => simp [intOf]; omega
        · have hF := hid (show decide (l = m) = false from decide_eq_false (fun e => he (by rw [e])))
          have he' : (l.getD k 0 == m.getD k 0) = false := by simpa using he
          generalize l.getD k 0 = x at du he he'
          generalize m.getD k 0 = y at dv he he'
          clear hcu hcv hu hv hp
          go_wp2
          go_quiet (fail)
          go_wp2
          go_ret
          exact ⟨ret_bool hF.out.symm, below_drewN hb.out _⟩
      · have hT := hid (show decide (l = m) = true from decide_eq_true (list_ext hlen (fun j hj => hp.out j (by omega))))
        clear hu hv hp
        go_wp2
        go_ret
        exact ⟨ret_bool hT.out.symm, hb.out⟩
  · have hF := hid (show decide (l = m) = false from decide_eq_false (fun e => hlen (by rw [e])))
    have hln : ((l.length : Int) == (m.length : Int)) = false := by simpa using (by omega : ¬ (l.length : Int) = (m.length : Int))
    clear hu hv
    go_enter Try.func32, Try.ntmps32
    go_wp2
    go_ret
    exact ⟨ret_bool hF.out.symm, Below.refl _ _⟩
/-- Are two nodes one? -/
def eqNd (a b : Nd) : Bool := decide (a.kind = b.kind) && decide (a.name.toList = b.name.toList) && decide (a.num = b.num) && decide (a.args = b.args)
theorem eqNd_yes {a b : Nd} (h : a = b) : eqNd a b = true := by
  subst h
  simp [eqNd]
theorem eqNd_no {a b : Nd} (h : a ≠ b) : eqNd a b = false := by
  cases he : eqNd a b with
  | false => rfl
  | true =>
    obtain ⟨k, s, n, l⟩ := a
    obtain ⟨k', s', n', l'⟩ := b
    simp only [eqNd, Bool.and_eq_true, decide_eq_true_eq] at he
    obtain ⟨⟨⟨h1, h2⟩, h3⟩, h4⟩ := he
    exact absurd (by rw [h1, text_eq h2, h3, h4]) h
/-- Are two rows of nodes one? -/
def eqNds : List Nd → List Nd → Bool
  | [], [] => true
  | a :: l, b :: m => eqNd a b && eqNds l m
  | _, _ => false
theorem eqNds_yes : ∀ {l m : List Nd}, l = m → eqNds l m = true
  | [], _, h => by subst h; rfl
  | a :: l, _, h => by
    subst h
    simp only [eqNds, eqNd_yes rfl, eqNds_yes (rfl : l = l), Bool.and_self]
theorem eqNds_no : ∀ {l m : List Nd}, l ≠ m → eqNds l m = false
  | [], [], h => absurd rfl h
  | [], b :: m, _ => rfl
  | a :: l, [], _ => rfl
  | a :: l, b :: m, h => by
    simp only [eqNds]
    by_cases e : a = b
    · rw [eqNds_no (fun e' => h (by rw [e, e']))]
      simp
    · rw [eqNd_no e]
      rfl
/-- Are two graphs one? -/
def eqG (a b : Gf) : Bool := eqNds a.nodes b.nodes && decide (a.roots = b.roots)
theorem eqG_yes (a : Gf) : eqG a a = true := by simp [eqG, eqNds_yes (rfl : a.nodes = a.nodes)]
theorem nd_eq (k k' n n' : Int) (s s' : ByteArray) (l l' : List Int) : eqNd ⟨k, s, n, l⟩ ⟨k', s', n', l'⟩ = (decide (k = k') && decide (s.toList = s'.toList) && decide (n = n') && decide (l = l')) := rfl
end Go.Proofs.Ytllafbghomohhaa

/- Same of package graph and of the reference, at all graphs of some thousand nodes. -/
namespace Go.Proofs.Ytllafbghomohhaa
open Go.RowKit

theorem Ri.shape {w : World} {v : Value} {l : List Int} (h : Ri w v l) : ∃ ao n c, v = .slice ao n c := by
  obtain ⟨ao, c, rfl, _⟩ := h
  exact ⟨_, _, _, rfl⟩
/-- A graph whose lists are not too long. -/
structure Fits (g : Gf) : Prop where
  nodes : g.nodes.length ≤ 5000
  roots : g.roots.length ≤ 5000
  args : ∀ n ∈ g.nodes, n.args.length ≤ 5000
theorem gf_eq (a b : Gf) : eqG a b = (eqNds a.nodes b.nodes && decide (a.roots = b.roots)) := rfl
end Go.Proofs.Ytllafbghomohhaa

/- Alike of package bisim, at any two graphs: true just if both are good and a pairing of their nodes keeps labels and leads on. -/
namespace Go.Proofs.Ytllafbghomohhaa
open Go.RowKit

theorem eqG_iff (a b : Gf) : eqG a b = true ↔ a = b := by
  constructor
  · intro h
    simp only [eqG, Bool.and_eq_true, decide_eq_true_eq] at h
    have hn : a.nodes = b.nodes := Classical.byContradiction fun hne => by
      rw [eqNds_no hne] at h
      exact absurd h.1 (by decide)
    obtain ⟨n, r⟩ := a
    obtain ⟨m, s⟩ := b
    have h1 : n = m := hn
    have h2 : r = s := h.2
    rw [h1, h2]
  · rintro rfl
    exact eqG_yes a
/-- Two good graphs with a pairing. -/
def AlG (a b : Gf) : Prop := one (chk a) = [] ∧ one (chk b) = [] ∧ ∃ R, Pr a b R
theorem alG_least {a b : Gf} (ha : one (chk a) = []) (hb : one (chk b) = []) {ea eb : Nat → Nat → Bool} (hda : ∀ x y : Nat, (ea x y = true ↔ Al a (x : Int) (y : Int))) (hdb : ∀ x y : Nat, (eb x y = true ↔ Al b (x : Int) (y : Int))) : AlG a b ↔ trimF (quoF ea a) = trimF (quoF eb b) :=
  ⟨fun ⟨_, _, _, h⟩ => h.least (chk_good ha) (chk_good hb) hda hdb, fun h => ⟨ha, hb, _, least_pr (chk_good ha) (chk_good hb) hda hdb h⟩⟩
theorem pr_refl {a : Gf} (ha : Good a) : Pr a a (fun x y => x = y ∧ isN a x) := by
  refine ⟨fun x y ⟨e, h⟩ => ⟨h, by rw [← e]; exact h⟩, fun x y ⟨e, h⟩ => by subst e; exact ⟨rfl, rfl, rfl, rfl⟩, fun x y ⟨e, h⟩ k hk => by subst e; exact ⟨rfl, arg_isN ha h hk⟩, fun x y y' ⟨e, _⟩ ⟨e', _⟩ _ => e.symm.trans e', fun x x' y ⟨e, _⟩ ⟨e', _⟩ _ => e.trans e'.symm, rfl, fun i hi => ⟨rfl, ha.root _ (getD_mem hi)⟩⟩
theorem alG_symm {a b : Gf} (h : AlG a b) : AlG b a := by
  obtain ⟨h1, h2, R, h⟩ := h
  exact ⟨h2, h1, _, h.symm⟩
theorem alG_refl {a : Gf} (h : one (chk a) = []) : AlG a a := ⟨h, h, _, pr_refl (chk_good h)⟩
theorem fits_good {g : Gf} (h : Good g) : Fits g := ⟨by have := h.nodes; omega, by have := h.roots; omega, fun n hn => by have := (good_args (h.node n hn)).2; omega⟩
/-- Two boxes, kept. -/
structure Bt (W : World) (nv rv mv sv : Value) (w : World) : Prop where
  b : Below W.heap.size W w
  b0 : w.heap[W.heap.size]? = some (.cells #[nv, rv] 25)
  b1 : w.heap[W.heap.size + 1]? = some (.cells #[mv, sv] 25)
theorem Bt.start (W : World) (nv rv mv sv : Value) : Bt W nv rv mv sv ((W.alloc (.cells #[nv, rv] 25)).alloc (.cells #[mv, sv] 25)) := by
  refine ⟨(below_alloc W _).alloc (by simp) _, ?_, ?_⟩
  · rw [Below.heap_alloc _ _ _ (by simp)]
    exact heap_alloc_new W _
  · have h := heap_alloc_new (W.alloc (.cells #[nv, rv] 25)) (.cells #[mv, sv] 25)
    rw [show (W.alloc (.cells #[nv, rv] 25)).heap.size = W.heap.size + 1 by simp] at h
    exact h
theorem keep1 {w w' : World} {q : Nat} {o : Obj} (h : w.heap[q]? = some o) (hb : Below w.heap.size w w') : w'.heap[q]? = some o := by
  rw [hb.block q (lt_of_block h)]
  exact h
theorem Bt.next {W w w' : World} {nv rv mv sv : Value} (h : Bt W nv rv mv sv w) (hb : Below w.heap.size w w') : Bt W nv rv mv sv w' := ⟨Below.next h.b hb, keep1 h.b0 hb, keep1 h.b1 hb⟩
theorem Bt.cells {W w : World} {nv rv mv sv : Value} (h : Bt W nv rv mv sv w) : ((w.cell? ⟨W.heap.size, 0, none⟩ = some nv ∧ w.cell? ⟨W.heap.size, 1, none⟩ = some rv) ∧ w.cell? ⟨W.heap.size + 1, 0, none⟩ = some mv ∧ w.cell? ⟨W.heap.size + 1, 1, none⟩ = some sv) ∧ W.heap.size < w.heap.size ∧ W.heap.size + 1 < w.heap.size :=
  ⟨⟨(blk2 h.b0).1, (blk2 h.b1).1⟩, lt_of_block h.b0, lt_of_block h.b1⟩
end Go.Proofs.Ytllafbghomohhaa

/- Join of package graph: rows of graphs, what it answers, its function literal. -/
namespace Go.Proofs.Ytllafbghomohhaa
open Go.RowKit

/-- A slice tells these graphs. -/
def Rg (w : World) (v : Value) (gs : List Gf) : Prop :=
  ∃ ao c, v = .slice ao gs.length c ∧ ∀ j, j < gs.length → ∃ b o nv rv, ao = some ⟨b, o, none⟩ ∧ w.cell? ⟨b, o + j * 2, none⟩ = some nv ∧ w.cell? ⟨b, o + j * 2 + 1, none⟩ = some rv ∧ Gr w nv rv (gs.getD j gf0)
theorem Rg.below {w w' : World} {v : Value} {gs : List Gf} (h : Rg w v gs) (hb : Below w.heap.size w w') : Rg w' v gs := by
  obtain ⟨ao, c, rfl, h⟩ := h
  refine ⟨ao, c, rfl, fun j hj => ?_⟩
  obtain ⟨b, o, nv, rv, hao, h0, h1, hg⟩ := h j hj
  exact ⟨b, o, nv, rv, hao, by rw [hb.cell (p := ⟨b, o + j * 2, none⟩) (lt_of_cell h0)]; exact h0, by rw [hb.cell (p := ⟨b, o + j * 2 + 1, none⟩) (lt_of_cell h1)]; exact h1, hg.below hb⟩
/-- Is a graph not good? -/
def badG (g : Gf) : Bool := !decide (one (chk g) = [])
/-- How many nodes, how many roots graphs have together. -/
def totN (gs : List Gf) : Nat := (gs.map (fun g => g.nodes.length)).sum
def totR (gs : List Gf) : Nat := (gs.map (fun g => g.roots.length)).sum
/-- One graph more. -/
def joinS (acc g : Gf) : Gf := ⟨acc.nodes ++ g.nodes.map (renum (fun x => (acc.nodes.length : Int) + x)), acc.roots ++ g.roots.map (fun x => (acc.nodes.length : Int) + x)⟩
/-- Graphs beside one another. -/
def joinG (gs : List Gf) : Gf := gs.foldl joinS ⟨[], []⟩
/-- Join's faults. -/
def joinC (gs : List Gf) : Fs :=
  if 0 ≤ ixOf badG gs then [(44, ixOf badG gs), chk (gs.getD (ixOf badG gs).toNat gf0)]
  else if 4096 < totN gs then [(41, (totN gs : Int))]
  else if 4096 < totR gs then [(42, (totR gs : Int))]
  else []
theorem gtake_snoc {l : List Gf} {k : Nat} (h : k < l.length) : l.take (k + 1) = l.take k ++ [l.getD k gf0] := by
  rw [List.take_succ_eq_append_getElem h]
  simp [List.getD, h]
theorem jtake_snoc {l : List Nd} {k : Nat} (h : k < l.length) : l.take (k + 1) = l.take k ++ [l.getD k nd0] := by
  rw [List.take_succ_eq_append_getElem h]
  simp [List.getD, h]
theorem tot_snoc (l : List Gf) (g : Gf) : totN (l ++ [g]) = totN l + g.nodes.length ∧ totR (l ++ [g]) = totR l + g.roots.length := by simp [totN, totR]
theorem tot_take : ∀ (l : List Gf) (k : Nat), totN (l.take k) ≤ totN l ∧ totR (l.take k) ≤ totR l
  | [], k => by simp [totN, totR]
  | g :: r, 0 => by simp [totN, totR]
  | g :: r, k + 1 => by
    have := tot_take r k
    simp only [totN, totR, List.take_succ_cons, List.map_cons, List.sum_cons] at this ⊢
    omega
theorem joinG_len : ∀ (gs : List Gf) (acc : Gf), (gs.foldl joinS acc).nodes.length = acc.nodes.length + totN gs ∧ (gs.foldl joinS acc).roots.length = acc.roots.length + totR gs
  | [], acc => by simp [totN, totR]
  | g :: r, acc => by
    have h1 := joinG_len r (joinS acc g)
    have h2 : (joinS acc g).nodes.length = acc.nodes.length + g.nodes.length := by simp [joinS]
    have h3 : (joinS acc g).roots.length = acc.roots.length + g.roots.length := by simp [joinS]
    rw [List.foldl_cons]
    rw [h2, h3] at h1
    have h4 : totN (g :: r) = g.nodes.length + totN r := by simp [totN]
    have h5 : totR (g :: r) = g.roots.length + totR r := by simp [totR]
    omega
set_option maxRecDepth 100000 in
set_option maxHeartbeats 400000 in
theorem numbered_nil {W : World} (fv : Value) (ao : Option Addr) (c : Nat) :
    Calls Try.prog 68 #[.slice ao 0 c, fv] W fun e w' => e = .returned (.slice none 0 0) ∧ w' = W := by
  go_enter Try.func68, Try.ntmps68
  go_wp2
  refine wp_loop_rounds 1 ?_
  rw [rounds_succ]
  go_wp2
  go_ret
  exact ⟨rfl, rfl⟩
theorem mem_blocks_tail {nv : Value} {avs : List Value} {k : Nat} (h : k ∈ blocks avs) : k ∈ blocks (nv :: avs) := by
  obtain ⟨v, hv, e⟩ := List.mem_filterMap.1 h
  exact List.mem_filterMap.2 ⟨v, by simp [hv], e⟩
/-- A node more in a graph of its own. -/
theorem Og.push {w w1 w2 : World} {B : Nat} {nv rv : Value} {avs : List Value} {acc : Gf} {n : Nd} {ao : Option Addr} {c g cap : Nat} (h : Og w B nv rv avs acc) (hb : Below w.heap.size w w1)
    (ha : w1.ownsRow w.heap.size 3 1 (.slice ao n.args.length c) n.args.length (n.args.map (Value.int .i64))) (hB : B ≤ w.heap.size)
    (hg : w1.grownBy w2 nv.ownBlock) (hown : w2.ownsRow B 56 4 (.slice (some ⟨g, 0, none⟩) (acc.nodes.length + 1) cap) (acc.nodes.length + 1) (ncells acc.nodes avs ++ [.int .i64 n.kind, .string n.name, .int .i64 n.num, .slice ao n.args.length c]))
    (hat : nv.ownBlock = some g ∨ w1.heap.size ≤ g) : Og w2 B (.slice (some ⟨g, 0, none⟩) (acc.nodes.length + 1) cap) rv (avs ++ [.slice ao n.args.length c]) ⟨acc.nodes ++ [n], acc.roots⟩ := by
  obtain ⟨ro, rc, rfl, hr⟩ := h.r
  have hz := hb.size
  have hnvr : ∀ k, Value.ownBlock (.slice ro acc.roots.length rc) = some k → nv.ownBlock ≠ some k := fun k e e' => h.ap k e (List.mem_filterMap.2 ⟨nv, by simp, e'⟩)
  refine ⟨h.on.push hb ha hB hg hown hat, ⟨some ⟨g, 0, none⟩, cap, by simp⟩, ⟨ro, rc, rfl, own_block (own_below hr hb) (fun k e => hg.block k (by have := (hr.lt k e).2; omega) (fun e' => hnvr k e e'.symm))⟩, fun k e hk => ?_⟩
  have hkl := (hr.lt k e).2
  have hcons : blocks (.slice (some ⟨g, 0, none⟩) (acc.nodes.length + 1) cap :: (avs ++ [.slice ao n.args.length c])) = g :: (blocks avs ++ blocks [.slice ao n.args.length c]) := by simp [blocks, Value.ownBlock]
  rw [hcons] at hk
  rcases List.mem_cons.1 hk with e1 | hk
  · subst e1
    rcases hat with e2 | e2
    · exact hnvr k e e2
    · omega
  · rcases List.mem_append.1 hk with hk | hk
    · exact h.ap k e (mem_blocks_tail hk)
    · obtain ⟨v, hv, e3⟩ := List.mem_filterMap.1 hk
      simp at hv
      subst hv
      have := (ha.lt k e3).1
      omega
/-- Roots more in a graph of its own. -/
theorem Og.roots {w w1 w2 : World} {B : Nat} {nv rv : Value} {avs : List Value} {acc : Gf} {l : List Int} {g cap m : Nat} (h : Og w B nv rv avs acc) (hb : Below w.heap.size w w1) (hm : l.length = m)
    (hg : w1.grownBy w2 rv.ownBlock) (hown : w2.ownsRow B 3 1 (.slice (some ⟨g, 0, none⟩) (acc.roots.length + m) cap) (acc.roots.length + m) (acc.roots.map (Value.int .i64) ++ l.map (Value.int .i64)))
    (hat : rv.ownBlock = some g ∨ w1.heap.size ≤ g) : Og w2 B nv (.slice (some ⟨g, 0, none⟩) (acc.roots.length + m) cap) avs ⟨acc.nodes, acc.roots ++ l⟩ := by
  subst hm
  have hz := hb.size
  refine ⟨(h.on.below hb).keep (fun k hk => hg.block k (by have := (h.on.lt k hk).2; omega) (fun e => h.ap k e.symm hk)), h.nsl, ⟨some ⟨g, 0, none⟩, cap, by simp, by simpa using hown⟩, fun k e hk => ?_⟩
  have e' : g = k := by simpa [Value.ownBlock] using e
  subst e'
  rcases hat with e2 | e2
  · exact h.ap g e2 hk
  · have := (h.on.lt g hk).2
    omega
theorem Og.keep {w w' : World} {B : Nat} {nv rv : Value} {avs : List Value} {g : Gf} (h : Og w B nv rv avs g) (hb : ∀ k, B ≤ k → k < w.heap.size → w'.heap[k]? = w.heap[k]?) : Og w' B nv rv avs g := by
  obtain ⟨ro, rc, rfl, hr⟩ := h.r
  exact ⟨h.on.keep (fun k hk => hb k (h.on.lt k hk).1 (h.on.lt k hk).2), h.nsl, ⟨ro, rc, rfl, own_block hr (fun k e => hb k (hr.lt k e).1 (hr.lt k e).2)⟩, h.ap⟩
theorem Og.below {w w' : World} {B : Nat} {nv rv : Value} {avs : List Value} {g : Gf} (h : Og w B nv rv avs g) (hb : Below w.heap.size w w') : Og w' B nv rv avs g := h.keep (fun k _ hk => hb.block k hk)
theorem Og.base {w : World} {B B' : Nat} {nv rv : Value} {avs : List Value} {g : Gf} (h : Og w B nv rv avs g) (hB : B' ≤ B) : Og w B' nv rv avs g := by
  obtain ⟨ro, rc, rfl, hr⟩ := h.r
  refine ⟨⟨own_base h.on.n hB, h.on.len, fun j hj => ?_, h.on.nd⟩, h.nsl, ⟨ro, rc, rfl, own_base hr hB⟩, h.ap⟩
  obtain ⟨aa, ac, e1, e2⟩ := h.on.a j hj
  exact ⟨aa, ac, e1, own_base e2 hB⟩
end Go.Proofs.Ytllafbghomohhaa
