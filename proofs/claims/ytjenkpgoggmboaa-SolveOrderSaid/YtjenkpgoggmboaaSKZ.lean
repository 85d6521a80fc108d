/- SolveOrder: pairs in another order, and steps: plain data and rows. -/
import Derived.Test.YtjenkpgoggmboaaSEZ
import Derived.Test.YtjenkpgoggmboaaBAZ
import Derived.Test.YtjenkpgoggmboaaGrTrim3
import Derived.Test.YtjenkpgoggmboaaGrReach3
import Derived.Test.YtjenkpgoggmboaaSCZ
namespace Go.Proofs.Ytjenkpgoggmboaa
open Go.RowKit

/-- Solved by the first so many pairs. -/
def AllS (g : Gf) (ps : List (Int × Int)) (j : Nat) (A : Gf) : Prop := ∃ (E r : Nat → Nat), Un g.nodes ((ps.take j).map natP) E [] ∧ Hm g.nodes E A r ∧ Rts g.nodes.length g.roots A r ∧ Good A
/-- All nodes as roots, and the roots behind them. -/
def allG (g : Gf) : Gf := ⟨g.nodes, (List.range g.nodes.length).map (fun n : Nat => (n : Int)) ++ g.roots⟩
theorem alls_start {g : Gf} (hg : Good g) (ps : List (Int × Int)) (hN : g.nodes.length ≤ 120) (hR : g.roots.length ≤ 120) : AllS g ps 0 (allG g) := by
  obtain ⟨h1, h2⟩ := Hm.start hg
  refine ⟨id, id, Un.init _, h1, h2, hg.nodes, ?_, hg.node, fun z hz => ?_⟩
  · show (List.length (_ ++ _)) ≤ 4096
    simp
    omega
  · rcases List.mem_append.1 hz with h | h
    · obtain ⟨n, hn, rfl⟩ := List.mem_map.1 h
      have : n < g.nodes.length := by simpa using hn
      show 0 ≤ (n : Int) ∧ (n : Int) < (g.nodes.length : Int)
      omega
    · exact hg.root z h
theorem alls_len {g : Gf} {ps : List (Int × Int)} {j : Nat} {A : Gf} (h : AllS g ps j A) : A.roots.length = g.nodes.length + g.roots.length ∧ Good A := by
  obtain ⟨E, r, _, _, h3, h4⟩ := h
  exact ⟨h3.len, h4⟩
/-- The two roots of a pair. -/
def rtQ (A : Gf) (p : Int × Int) : Int × Int := (A.roots.getD p.1.toNat 0, A.roots.getD p.2.toNat 0)
theorem take_pair {ps : List (Int × Int)} {j : Nat} (hj : j < ps.length) : (ps.take (j + 1)).map natP = (ps.take j).map natP ++ [natP (ps.getD j (0, 0))] := by
  rw [List.take_add_one, List.map_append]
  simp [List.getD, hj]
theorem psg_nat {g : Gf} {ps : List (Int × Int)} (h : PsG g ps) : ∀ p ∈ ps.map natP, p.1 < g.nodes.length ∧ p.2 < g.nodes.length := fun p hm => by
  obtain ⟨q, hq, rfl⟩ := List.mem_map.1 hm
  obtain ⟨h1, h2⟩ := h q hq
  simp only [natP]
  omega
theorem chkS_one {A : Gf} (hA : Good A) {q : Int × Int} (h1 : 0 ≤ q.1 ∧ q.1 < (A.nodes.length : Int)) (h2 : 0 ≤ q.2 ∧ q.2 < (A.nodes.length : Int)) : chkS A [q] = [] := by
  have h : ixOf (badP A.nodes.length) [q] = -1 := ixOf_none _ _ (by
    simp [badP, strange]
    omega)
  unfold chkS
  rw [chk_of_good hA, h]
  simp
theorem alls_step {g : Gf} (hg : Good g) {ps : List (Int × Int)} (hpg : PsG g ps) {j : Nat} (hj : j < ps.length) {A : Gf} (h : AllS g ps j A) :
    chkS A [rtQ A (ps.getD j (0, 0))] = [] ∧ (NoSol A.nodes ([rtQ A (ps.getD j (0, 0))].map natP) → NoSol g.nodes (ps.map natP)) ∧ ∀ t, LeastS A [rtQ A (ps.getD j (0, 0))] t → AllS g ps (j + 1) t := by
  obtain ⟨E, r, hU, hH, hR, hA⟩ := h
  obtain ⟨p1, p2⟩ := hpg _ (pairD_mem hj)
  have hPn : ∀ p ∈ (ps.take j).map natP, p.1 < g.nodes.length ∧ p.2 < g.nodes.length := fun p hm => psg_nat hpg p (by
    obtain ⟨q, hq, rfl⟩ := List.mem_map.1 hm
    exact List.mem_map.2 ⟨q, List.mem_of_mem_take hq, rfl⟩)
  have htk := take_pair hj
  generalize hp : ps.getD j (0, 0) = p at *
  obtain ⟨x, y⟩ := p
  dsimp only at p1 p2
  have hx : x.toNat < g.nodes.length := by omega
  have hy : y.toNat < g.nodes.length := by omega
  have e1 : rtQ A (x, y) = (((r x.toNat : Nat) : Int), ((r y.toNat : Nat) : Int)) := by
    unfold rtQ
    rw [hR.nd _ hx, hR.nd _ hy]
  have e2 : [rtQ A (x, y)].map natP = [(r x.toNat, r y.toNat)] := by
    rw [e1]
    simp [natP]
  have r1 := hH.rng _ hx
  have r2 := hH.rng _ hy
  have hns := hH.nosol (goodA_of hg) hU hPn hx hy
  refine ⟨?_, fun hn => ?_, fun t ht => ?_⟩
  · rw [e1]
    exact chkS_one hA ⟨by omega, by show ((r x.toNat : Nat) : Int) < _; omega⟩ ⟨by omega, by show ((r y.toNat : Nat) : Int) < _; omega⟩
  · rw [e2] at hn
    have h1 := hns.1 hn
    refine h1.more (fun p hm => ?_)
    rw [show (ps.take j).map natP ++ [(x.toNat, y.toNat)] = (ps.take (j + 1)).map natP from htk.symm] at hm
    obtain ⟨q, hq, rfl⟩ := List.mem_map.1 hm
    exact List.mem_map.2 ⟨q, List.mem_of_mem_take hq, rfl⟩
  · obtain ⟨F, ee, hF, hd, rfl⟩ := ht
    rw [e2] at hF
    have hE : ∃ E', Un g.nodes ((ps.take j).map natP ++ [(x.toNat, y.toNat)]) E' [] := by
      rcases un_more (goodA_of hg) hU hx hy with h1 | h1
      · exact h1
      · exact absurd (hns.2 h1 _ hF.done.1 hF.done.2.1) (fun h => h)
    obtain ⟨E', hU'⟩ := hE
    obtain ⟨r', h3, h4⟩ := Hm.step hg hU hA hH hPn hg.root hR hx hy hU' hF hd
    have hB := gE_good hA hF.rng
    exact ⟨E', r', by rw [htk]; exact hU', h3, h4, trim_good0 (quo_good hB (al_eqv hB hd))⟩
theorem alls_fin {g : Gf} (hg : Good g) {ps : List (Int × Int)} {A : Gf} (h : AllS g ps ps.length A) : ¬ NoSol g.nodes (ps.map natP) ∧ Good ⟨A.nodes, A.roots.drop g.nodes.length⟩ ∧ ∀ t, LeastS g ps t → ∀ e2 : Nat → Nat → Bool, (∀ x y : Nat, (e2 x y = true ↔ Al ⟨A.nodes, A.roots.drop g.nodes.length⟩ (x : Int) (y : Int))) → trimF (quoF e2 ⟨A.nodes, A.roots.drop g.nodes.length⟩) = t := by
  obtain ⟨E, r, hU, hH, hR, hA⟩ := h
  rw [List.take_length] at hU
  exact ⟨fun hn => hn _ hU.done.1 hU.done.2.1, ⟨hA.nodes, by have := hA.roots; simp; omega, hA.node, fun z hz => hA.root z (List.mem_of_mem_drop hz)⟩, fun t ht e2 hd2 => Hm.fin hg hU hA hH hR ht hd2⟩
/-- Backwards, each pair turned and as it is. -/
def othJ (ps : List (Int × Int)) : Nat → List (Int × Int)
  | 0 => []
  | k + 1 => othJ ps k ++ [((ps.getD (ps.length - 1 - k) (0, 0)).2, (ps.getD (ps.length - 1 - k) (0, 0)).1), ps.getD (ps.length - 1 - k) (0, 0)]
theorem othJ_len (ps : List (Int × Int)) : ∀ k, (othJ ps k).length = k + k
  | 0 => rfl
  | k + 1 => by
    unfold othJ
    rw [List.length_append, othJ_len ps k]
    simp
    omega
theorem othJ_mem {ps : List (Int × Int)} : ∀ {k : Nat} {q : Int × Int}, q ∈ othJ ps k ↔ ∃ i, i < k ∧ (q = ps.getD (ps.length - 1 - i) (0, 0) ∨ q = ((ps.getD (ps.length - 1 - i) (0, 0)).2, (ps.getD (ps.length - 1 - i) (0, 0)).1))
  | 0, q => ⟨fun h => (by cases h), fun ⟨i, hi, _⟩ => absurd hi (Nat.not_lt_zero _)⟩
  | k + 1, q => by
    unfold othJ
    rw [List.mem_append, othJ_mem (k := k)]
    constructor
    · rintro (⟨i, hi, h⟩ | h)
      · exact ⟨i, by omega, h⟩
      · refine ⟨k, by omega, ?_⟩
        rcases List.mem_cons.1 h with h | h
        · exact Or.inr h
        · exact Or.inl (by simpa using h)
    · rintro ⟨i, hi, h⟩
      by_cases e : i = k
      · subst e
        rcases h with h | h
        · exact Or.inr (by rw [← h]; simp)
        · exact Or.inr (by rw [← h]; simp)
      · exact Or.inl ⟨i, by omega, h⟩
theorem oth_psg {g : Gf} {ps : List (Int × Int)} (h : PsG g ps) : PsG g (othJ ps ps.length) := fun q hq => by
  obtain ⟨i, hi, e⟩ := othJ_mem.1 hq
  have := h _ (pairD_mem (ps := ps) (i := ps.length - 1 - i) (by omega))
  rcases e with rfl | rfl
  · exact this
  · exact ⟨this.2, this.1⟩
theorem oth_iff {ns : List Nd} {ps : List (Int × Int)} (R : Nat → Nat → Prop) (hR : Cg ns R) : (∀ p ∈ ps.map natP, R p.1 p.2) ↔ ∀ p ∈ (othJ ps ps.length).map natP, R p.1 p.2 := by
  constructor
  · intro h p hm
    obtain ⟨q, hq, rfl⟩ := List.mem_map.1 hm
    obtain ⟨i, hi, e⟩ := othJ_mem.1 hq
    have := h (natP (ps.getD (ps.length - 1 - i) (0, 0))) (List.mem_map.2 ⟨_, pairD_mem (by omega), rfl⟩)
    rcases e with rfl | rfl
    · exact this
    · exact hR.symm _ _ this
  · intro h p hm
    obtain ⟨q, hq, rfl⟩ := List.mem_map.1 hm
    obtain ⟨i, hi, rfl⟩ := List.getElem_of_mem hq
    refine h _ (List.mem_map.2 ⟨_, othJ_mem.2 ⟨ps.length - 1 - i, by omega, Or.inl ?_⟩, rfl⟩)
    rw [show ps.length - 1 - (ps.length - 1 - i) = i by omega]
    simp [List.getD, hi]
theorem oth_nosol {ns : List Nd} {ps : List (Int × Int)} : NoSol ns ((othJ ps ps.length).map natP) ↔ NoSol ns (ps.map natP) :=
  ⟨fun h R hR hp => h R hR ((oth_iff R hR).1 hp), fun h R hR hp => h R hR ((oth_iff R hR).2 hp)⟩
/-- The cells of pairs. -/
def pcI (l : List (Int × Int)) : List Value := l.flatMap fun p => [.int .i64 p.1, .int .i64 p.2]
theorem pcI_app (l m : List (Int × Int)) : pcI (l ++ m) = pcI l ++ pcI m := by simp [pcI]
theorem pcI_len : ∀ l : List (Int × Int), (pcI l).length = l.length * 2
  | [] => rfl
  | p :: r => by
    show (_ :: _ :: pcI r).length = _
    rw [List.length_cons, List.length_cons, pcI_len r, List.length_cons]
    omega
theorem pcI_at : ∀ (l : List (Int × Int)) (j : Nat), j < l.length → (pcI l)[j * 2]? = some (.int .i64 (l.getD j (0, 0)).1) ∧ (pcI l)[j * 2 + 1]? = some (.int .i64 (l.getD j (0, 0)).2)
  | [], j, h => absurd h (Nat.not_lt_zero _)
  | p :: r, 0, _ => ⟨rfl, rfl⟩
  | p :: r, j + 1, h => by
    have := pcI_at r j (by simpa using h)
    rw [show (j + 1) * 2 = j * 2 + 1 + 1 by omega]
    have e : pcI (p :: r) = .int .i64 p.1 :: .int .i64 p.2 :: pcI r := rfl
    rw [e]
    simpa [List.getD] using this
theorem rp_own {w : World} {B : Nat} {ao : Option Addr} {n c : Nat} {l : List (Int × Int)} (hn : l.length = n) (h : w.ownsRow B 52 2 (.slice ao n c) n (pcI l)) : Rp w (.slice ao n c) l := by
  subst hn
  refine ⟨ao, c, rfl, fun j hj => ?_⟩
  rcases h.2 with ⟨_, h0⟩ | ⟨g, cap, cur, e, _⟩
  · omega
  · have e2 : ao = some ⟨g, 0, none⟩ := by injection e
    subst e2
    obtain ⟨c0, c1⟩ := pcI_at l j hj
    refine ⟨g, 0, rfl, ?_, ?_⟩
    · rw [Nat.zero_add, h.cellAt (j * 2) (by omega)]; exact c0
    · rw [Nat.zero_add, h.cellAt (j * 2 + 1) (by omega)]; exact c1
theorem rp_lit1 {w : World} {b : Nat} {x y : Int} (h : w.heap[b]? = some (.cells #[.int .i64 x, .int .i64 y] 52)) : Rp w (.slice (some ⟨b, 0, none⟩) 1 1) [(x, y)] := by
  refine ⟨some ⟨b, 0, none⟩, 1, rfl, fun j hj => ?_⟩
  have e : j = 0 := by simpa using hj
  subst e
  exact ⟨b, 0, rfl, by simp [World.cell?, h], by simp [World.cell?, h]⟩
end Go.Proofs.Ytjenkpgoggmboaa

/- Join of package graph: rows of graphs, what it answers, its function literal. -/
namespace Go.Proofs.Ytjenkpgoggmboaa
open Go.RowKit

/-- A slice tells these graphs. -/
def Rg (w : World) (v : Value) (gs : List Gf) : Prop :=
  ∃ ao c, v = .slice ao gs.length c ∧ ∀ j, j < gs.length → ∃ b o nv rv, ao = some ⟨b, o, none⟩ ∧ w.cell? ⟨b, o + j * 2, none⟩ = some nv ∧ w.cell? ⟨b, o + j * 2 + 1, none⟩ = some rv ∧ Gr w nv rv (gs.getD j gf0)
theorem Rg.below {w w' : World} {v : Value} {gs : List Gf} (h : Rg w v gs) (hb : Below w.heap.size w w') : Rg w' v gs := by
  obtain ⟨ao, c, rfl, h⟩ := h
  refine ⟨ao, c, rfl, fun j hj => ?_⟩
  obtain ⟨b, o, nv, rv, hao, h0, h1, hg⟩ := h j hj
  exact ⟨b, o, nv, rv, hao, by rw [hb.cell (p := ⟨b, o + j * 2, none⟩) (lt_of_cell h0)]; exact h0, by rw [hb.cell (p := ⟨b, o + j * 2 + 1, none⟩) (lt_of_cell h1)]; exact h1, hg.below hb⟩
/-- Is a graph not good? -/
def badG (g : Gf) : Bool := !decide (one (chk g) = [])
/-- How many nodes, how many roots graphs have together. -/
def totN (gs : List Gf) : Nat := (gs.map (fun g => g.nodes.length)).sum
def totR (gs : List Gf) : Nat := (gs.map (fun g => g.roots.length)).sum
/-- One graph more. -/
def joinS (acc g : Gf) : Gf := ⟨acc.nodes ++ g.nodes.map (renum (fun x => (acc.nodes.length : Int) + x)), acc.roots ++ g.roots.map (fun x => (acc.nodes.length : Int) + x)⟩
/-- Graphs beside one another. -/
def joinG (gs : List Gf) : Gf := gs.foldl joinS ⟨[], []⟩
/-- Join's faults. -/
def joinC (gs : List Gf) : Fs :=
  if 0 ≤ ixOf badG gs then [(44, ixOf badG gs), chk (gs.getD (ixOf badG gs).toNat gf0)]
  else if 4096 < totN gs then [(41, (totN gs : Int))]
  else if 4096 < totR gs then [(42, (totR gs : Int))]
  else []
theorem gtake_snoc {l : List Gf} {k : Nat} (h : k < l.length) : l.take (k + 1) = l.take k ++ [l.getD k gf0] := by
  rw [List.take_succ_eq_append_getElem h]
  simp [List.getD, h]
theorem jtake_snoc {l : List Nd} {k : Nat} (h : k < l.length) : l.take (k + 1) = l.take k ++ [l.getD k nd0] := by
  rw [List.take_succ_eq_append_getElem h]
  simp [List.getD, h]
theorem tot_snoc (l : List Gf) (g : Gf) : totN (l ++ [g]) = totN l + g.nodes.length ∧ totR (l ++ [g]) = totR l + g.roots.length := by simp [totN, totR]
theorem tot_take : ∀ (l : List Gf) (k : Nat), totN (l.take k) ≤ totN l ∧ totR (l.take k) ≤ totR l
  | [], k => by simp [totN, totR]
  | g :: r, 0 => by simp [totN, totR]
  | g :: r, k + 1 => by
    have := tot_take r k
    simp only [totN, totR, List.take_succ_cons, List.map_cons, List.sum_cons] at this ⊢
    omega
theorem joinG_len : ∀ (gs : List Gf) (acc : Gf), (gs.foldl joinS acc).nodes.length = acc.nodes.length + totN gs ∧ (gs.foldl joinS acc).roots.length = acc.roots.length + totR gs
  | [], acc => by simp [totN, totR]
  | g :: r, acc => by
    have h1 := joinG_len r (joinS acc g)
    have h2 : (joinS acc g).nodes.length = acc.nodes.length + g.nodes.length := by simp [joinS]
    have h3 : (joinS acc g).roots.length = acc.roots.length + g.roots.length := by simp [joinS]
    rw [List.foldl_cons]
    rw [h2, h3] at h1
    have h4 : totN (g :: r) = g.nodes.length + totN r := by simp [totN]
    have h5 : totR (g :: r) = g.roots.length + totR r := by simp [totR]
    omega
set_option maxRecDepth 100000 in
set_option maxHeartbeats 400000 in
theorem numbered_nil {W : World} (fv : Value) (ao : Option Addr) (c : Nat) :
    Calls Try.prog 85 #[.slice ao 0 c, fv] W fun e w' => e = .returned (.slice none 0 0) ∧ w' = W := by
  go_enter Try.func85, Try.ntmps85
  go_wp2
  refine wp_loop_rounds 1 ?_
  rw [rounds_succ]
  go_wp2
  go_ret
  exact ⟨rfl, rfl⟩
theorem mem_blocks_tail {nv : Value} {avs : List Value} {k : Nat} (h : k ∈ blocks avs) : k ∈ blocks (nv :: avs) := by
  obtain ⟨v, hv, e⟩ := List.mem_filterMap.1 h
  exact List.mem_filterMap.2 ⟨v, by simp [hv], e⟩
/-- A node more in a graph of its own. -/
theorem Og.push {w w1 w2 : World} {B : Nat} {nv rv : Value} {avs : List Value} {acc : Gf} {n : Nd} {ao : Option Addr} {c g cap : Nat} (h : Og w B nv rv avs acc) (hb : Below w.heap.size w w1)
    (ha : w1.ownsRow w.heap.size 3 1 (.slice ao n.args.length c) n.args.length (n.args.map (Value.int .i64))) (hB : B ≤ w.heap.size)
    (hg : w1.grownBy w2 nv.ownBlock) (hown : w2.ownsRow B 65 4 (.slice (some ⟨g, 0, none⟩) (acc.nodes.length + 1) cap) (acc.nodes.length + 1) (ncells acc.nodes avs ++ [.int .i64 n.kind, .string n.name, .int .i64 n.num, .slice ao n.args.length c]))
    (hat : nv.ownBlock = some g ∨ w1.heap.size ≤ g) : Og w2 B (.slice (some ⟨g, 0, none⟩) (acc.nodes.length + 1) cap) rv (avs ++ [.slice ao n.args.length c]) ⟨acc.nodes ++ [n], acc.roots⟩ := by
  obtain ⟨ro, rc, rfl, hr⟩ := h.r
  have hz := hb.size
  have hnvr : ∀ k, Value.ownBlock (.slice ro acc.roots.length rc) = some k → nv.ownBlock ≠ some k := fun k e e' => h.ap k e (List.mem_filterMap.2 ⟨nv, by simp, e'⟩)
  refine ⟨h.on.push hb ha hB hg hown hat, ⟨some ⟨g, 0, none⟩, cap, by simp⟩, ⟨ro, rc, rfl, own_block (own_below hr hb) (fun k e => hg.block k (by have := (hr.lt k e).2; omega) (fun e' => hnvr k e e'.symm))⟩, fun k e hk => ?_⟩
  have hkl := (hr.lt k e).2
  have hcons : blocks (.slice (some ⟨g, 0, none⟩) (acc.nodes.length + 1) cap :: (avs ++ [.slice ao n.args.length c])) = g :: (blocks avs ++ blocks [.slice ao n.args.length c]) := by simp [blocks, Value.ownBlock]
  rw [hcons] at hk
  rcases List.mem_cons.1 hk with e1 | hk
  · subst e1
    rcases hat with e2 | e2
    · exact hnvr k e e2
    · omega
  · rcases List.mem_append.1 hk with hk | hk
    · exact h.ap k e (mem_blocks_tail hk)
    · obtain ⟨v, hv, e3⟩ := List.mem_filterMap.1 hk
      simp at hv
      subst hv
      have := (ha.lt k e3).1
      omega
/-- Roots more in a graph of its own. -/
theorem Og.roots {w w1 w2 : World} {B : Nat} {nv rv : Value} {avs : List Value} {acc : Gf} {l : List Int} {g cap m : Nat} (h : Og w B nv rv avs acc) (hb : Below w.heap.size w w1) (hm : l.length = m)
    (hg : w1.grownBy w2 rv.ownBlock) (hown : w2.ownsRow B 3 1 (.slice (some ⟨g, 0, none⟩) (acc.roots.length + m) cap) (acc.roots.length + m) (acc.roots.map (Value.int .i64) ++ l.map (Value.int .i64)))
    (hat : rv.ownBlock = some g ∨ w1.heap.size ≤ g) : Og w2 B nv (.slice (some ⟨g, 0, none⟩) (acc.roots.length + m) cap) avs ⟨acc.nodes, acc.roots ++ l⟩ := by
  subst hm
  have hz := hb.size
  refine ⟨(h.on.below hb).keep (fun k hk => hg.block k (by have := (h.on.lt k hk).2; omega) (fun e => h.ap k e.symm hk)), h.nsl, ⟨some ⟨g, 0, none⟩, cap, by simp, by simpa using hown⟩, fun k e hk => ?_⟩
  have e' : g = k := by simpa [Value.ownBlock] using e
  subst e'
  rcases hat with e2 | e2
  · exact h.ap g e2 hk
  · have := (h.on.lt g hk).2
    omega
theorem Og.keep {w w' : World} {B : Nat} {nv rv : Value} {avs : List Value} {g : Gf} (h : Og w B nv rv avs g) (hb : ∀ k, B ≤ k → k < w.heap.size → w'.heap[k]? = w.heap[k]?) : Og w' B nv rv avs g := by
  obtain ⟨ro, rc, rfl, hr⟩ := h.r
  exact ⟨h.on.keep (fun k hk => hb k (h.on.lt k hk).1 (h.on.lt k hk).2), h.nsl, ⟨ro, rc, rfl, own_block hr (fun k e => hb k (hr.lt k e).1 (hr.lt k e).2)⟩, h.ap⟩
theorem Og.below {w w' : World} {B : Nat} {nv rv : Value} {avs : List Value} {g : Gf} (h : Og w B nv rv avs g) (hb : Below w.heap.size w w') : Og w' B nv rv avs g := h.keep (fun k _ hk => hb.block k hk)
theorem Og.base {w : World} {B B' : Nat} {nv rv : Value} {avs : List Value} {g : Gf} (h : Og w B nv rv avs g) (hB : B' ≤ B) : Og w B' nv rv avs g := by
  obtain ⟨ro, rc, rfl, hr⟩ := h.r
  refine ⟨⟨own_base h.on.n hB, h.on.len, fun j hj => ?_, h.on.nd⟩, h.nsl, ⟨ro, rc, rfl, own_base hr hB⟩, h.ap⟩
  obtain ⟨aa, ac, e1, e2⟩ := h.on.a j hj
  exact ⟨aa, ac, e1, own_base e2 hB⟩
end Go.Proofs.Ytjenkpgoggmboaa

/- Join of package graph: its faults. -/
namespace Go.Proofs.Ytjenkpgoggmboaa
open Go.RowKit

theorem keepJ {w w' : World} {q : Nat} {o : Obj} (h : w.heap[q]? = some o) (hb : Below w.heap.size w w') : w'.heap[q]? = some o := by
  rw [hb.block q (lt_of_block h)]
  exact h
theorem tot_le : ∀ (l : List Gf), (∀ g ∈ l, Good g) → totN l ≤ 4096 * l.length ∧ totR l ≤ 4096 * l.length
  | [], _ => by simp [totN, totR]
  | g :: r, h => by
    have h1 := tot_le r (fun x hx => h x (by simp [hx]))
    have h2 := (h g (by simp)).nodes
    have h3 := (h g (by simp)).roots
    have h4 : totN (g :: r) = g.nodes.length + totN r := by simp [totN]
    have h5 : totR (g :: r) = g.roots.length + totR r := by simp [totR]
    simp only [List.length_cons]
    omega
theorem one_bad {g : Gf} (h : one (chk g) ≠ []) : one (chk g) = [chk g] := by
  unfold one at h ⊢
  split
  · rename_i h0
    rw [if_pos h0] at h
    exact absurd rfl h
  · rfl
/-- What Join answers where it refuses. -/
def JoinBad (W w' : World) (e : Ending) (fs : Fs) : Prop := (∃ b, e = .returned (.tuple #[.agg #[.slice none 0 0, .slice none 0 0], .iface 75 (.pointer (some ⟨b, 0, none⟩))]) ∧ Er w' (.iface 75 (.pointer (some ⟨b, 0, none⟩))) fs) ∧ Below W.heap.size W w'
/-- What Join answers where it joins. -/
def JoinGood (W w' : World) (e : Ending) (g : Gf) : Prop := (∃ nv rv avs, e = .returned (.tuple #[.agg #[nv, rv], .nilIface]) ∧ Og w' W.heap.size nv rv avs g) ∧ Below W.heap.size W w'
/-- The graph so far, in the variable that lies at block w3.heap.size. -/
structure J (w3 w : World) (acc : Gf) (ao : Option Addr) (c : Nat) (ro : Option Addr) (rc : Nat) (avs : List Value) : Prop where
  b : Below w3.heap.size w3 w
  out : w.heap[w3.heap.size]? = some (.cells #[.slice ao acc.nodes.length c, .slice ro acc.roots.length rc] 25 (0, 0))
  og : Og w (w3.heap.size + 1) (.slice ao acc.nodes.length c) (.slice ro acc.roots.length rc) avs acc
theorem J.below {w3 w w' : World} {acc : Gf} {ao ro : Option Addr} {c rc : Nat} {avs : List Value} (h : J w3 w acc ao c ro rc avs) (hb : Below w.heap.size w w') : J w3 w' acc ao c ro rc avs :=
  ⟨Below.next h.b hb, keepJ h.out hb, h.og.below hb⟩
/-- One node more. -/
theorem J.push {w3 w w4 w5 : World} {acc : Gf} {n : Nd} {F : Int → Int} {ao aa ro : Option Addr} {c ac g cap rc nl : Nat} {avs : List Value} (hJ : J w3 w acc ao c ro rc avs) (hL : acc.nodes.length = nl) (hb : Below w.heap.size w w4)
    (ha : w4.ownsRow w.heap.size 3 1 (.slice aa n.args.length ac) n.args.length ((n.args.map F).map (Value.int .i64))) (o : Obj)
    (hg : (w4.alloc o).grownBy w5 (Value.ownBlock (.slice ao nl c))) (hown : w5.ownsRow (w3.heap.size + 1) 65 4 (.slice (some ⟨g, 0, none⟩) (nl + 1) cap) (nl + 1) (ncells acc.nodes avs ++ [.int .i64 n.kind, .string n.name, .int .i64 n.num, .slice aa n.args.length ac]))
    (hat : Value.ownBlock (.slice ao nl c) = some g ∨ g = w4.heap.size + 1) :
    J w3 (w5.setCell ⟨w3.heap.size, 0, none⟩ (.slice (some ⟨g, 0, none⟩) (nl + 1) cap)) ⟨acc.nodes ++ [renum F n], acc.roots⟩ (some ⟨g, 0, none⟩) cap ro rc (avs ++ [.slice aa n.args.length ac]) ∧
      (∀ a o', a < w.heap.size → a ≠ w3.heap.size → Value.ownBlock (.slice ao nl c) ≠ some a → w.heap[a]? = some o' → (w5.setCell ⟨w3.heap.size, 0, none⟩ (.slice (some ⟨g, 0, none⟩) (nl + 1) cap)).heap[a]? = some o') := by
  subst hL
  have hl : (renum F n).args.length = n.args.length := by simp [renum]
  have hz := lt_of_block hJ.out
  have hz4 := hb.size
  have hnv : ∀ k, Value.ownBlock (.slice ao acc.nodes.length c) = some k → w3.heap.size + 1 ≤ k := fun k e => (hJ.og.on.n.lt k e).1
  have hP : Og w5 (w3.heap.size + 1) (.slice (some ⟨g, 0, none⟩) (acc.nodes.length + 1) cap) (.slice ro acc.roots.length rc) (avs ++ [.slice aa n.args.length ac]) ⟨acc.nodes ++ [renum F n], acc.roots⟩ := by
    have hP := Og.push (n := renum F n) (ao := aa) (c := ac) (g := g) (cap := cap) hJ.og (hb.alloc hz4 o) (by rw [hl]; exact ha.alloc o) (by omega) hg (by rw [hl]; exact hown) (by
      rcases hat with e | e
      · exact Or.inl e
      · exact Or.inr (by simp; omega))
    rw [hl] at hP
    exact hP
  have hkeep : ∀ a o', a < w.heap.size → Value.ownBlock (.slice ao acc.nodes.length c) ≠ some a → w.heap[a]? = some o' → w5.heap[a]? = some o' := fun a o' h1 h2 h3 => by
    rw [hg.block a (by simp; omega) (fun e => h2 e.symm), Below.heap_alloc _ _ _ (by omega), hb.block a h1]
    exact h3
  have h5 := hkeep w3.heap.size _ hz (fun e => by have := hnv _ e; omega) hJ.out
  refine ⟨⟨?_, ?_, ?_⟩, fun a o' h1 h2 h3 h4 => ?_⟩
  · have h1 : Below w3.heap.size w3 (w4.alloc o) := (Below.next hJ.b hb).alloc (by have := hJ.b.size; omega) o
    exact (h1.grown hg (by simp; omega) (fun k e => by have := hnv k e; omega)).setCell (Nat.le_refl _) _
  · rw [blk2_set0 h5]
    simp
  · rw [List.length_append, List.length_singleton]
    exact hP.keep (fun k h1 _ => Below.heap_setCell _ _ _ _ (by show k ≠ w3.heap.size; omega))
  · rw [Below.heap_setCell _ _ _ _ h2]
    exact hkeep a o' h1 h3 h4
/-- Roots more. -/
theorem J.more {w3 w w4 w5 : World} {acc : Gf} {l : List Int} {ao ro : Option Addr} {c g cap rc rl : Nat} {avs : List Value} (hJ : J w3 w acc ao c ro rc avs) (hL : acc.roots.length = rl) (hb : Below w.heap.size w w4)
    (hg : w4.grownBy w5 (Value.ownBlock (.slice ro rl rc))) (hown : w5.ownsRow (w3.heap.size + 1) 3 1 (.slice (some ⟨g, 0, none⟩) (rl + l.length) cap) (rl + l.length) (acc.roots.map (Value.int .i64) ++ l.map (Value.int .i64)))
    (hat : Value.ownBlock (.slice ro rl rc) = some g ∨ g = w4.heap.size) :
    J w3 (w5.setCell ⟨w3.heap.size, 1, none⟩ (.slice (some ⟨g, 0, none⟩) (rl + l.length) cap)) ⟨acc.nodes, acc.roots ++ l⟩ ao c (some ⟨g, 0, none⟩) cap avs := by
  subst hL
  have hz := lt_of_block hJ.out
  have hz4 := hb.size
  obtain ⟨ro', rc', he, hr⟩ := hJ.og.r
  have hrv : ∀ k, Value.ownBlock (.slice ro acc.roots.length rc) = some k → w3.heap.size + 1 ≤ k := fun k e => by
    rw [he] at e
    exact (hr.lt k e).1
  have hP := hJ.og.roots (l := l) (g := g) (cap := cap) (m := l.length) hb rfl hg hown (by
    rcases hat with e | e
    · exact Or.inl e
    · exact Or.inr (by omega))
  have h5 : w5.heap[w3.heap.size]? = some (.cells #[.slice ao acc.nodes.length c, .slice ro acc.roots.length rc] 25) := by
    rw [hg.block _ (by omega) (fun e => by have := hrv _ e.symm; omega), hb.block _ hz]
    exact hJ.out
  refine ⟨?_, ?_, ?_⟩
  · exact ((Below.next hJ.b hb).grown hg (by have := hJ.b.size; omega) (fun k e => by have := hrv k e; omega)).setCell (Nat.le_refl _) _
  · rw [blk2_set1 h5]
    simp
  · have hP' := hP.keep (w' := w5.setCell ⟨w3.heap.size, 1, none⟩ (.slice (some ⟨g, 0, none⟩) (acc.roots.length + l.length) cap)) (fun k h1 _ => Below.heap_setCell _ _ _ _ (by show k ≠ w3.heap.size; omega))
    simpa using hP'
theorem row_some {w : World} {B : Nat} {ao : Option Addr} {n c : Nat} {xs : List Value} (h : w.ownsRow B 3 1 (.slice ao n c) n xs) (hn : 0 < n) : ∃ g, ao = some ⟨g, 0, none⟩ := by
  rcases h.2 with ⟨_, h0⟩ | ⟨g, cap, cur, hv, _⟩
  · omega
  · exact ⟨g, by injection hv⟩
theorem J.same {w3 w : World} {acc : Gf} {ao ro : Option Addr} {c rc : Nat} {avs : List Value} (h : J w3 w acc ao c ro rc avs) : J w3 (w.setCell ⟨w3.heap.size, 1, none⟩ (.slice ro acc.roots.length rc)).drew acc ao c ro rc avs := by
  have h2 : J w3 (w.setCell ⟨w3.heap.size, 1, none⟩ (.slice ro acc.roots.length rc)) acc ao c ro rc avs := ⟨h.b.setCell (Nat.le_refl _) _, blk2_set1 h.out, h.og.keep (fun k h2 _ => Below.heap_setCell _ _ _ _ (by show k ≠ w3.heap.size; omega))⟩
  exact h2.below (drew_below _)
theorem step_append_none {w : World} {ops : Array Oper} {o : Oper} {a : Act} {K : Act → World → Prop} {Q : Exit → Act → World → Prop} {E : Prop} (hgd : o.guard = none) (s x : Operand) (ho : o.op = .call { callee := .builtin .append, args := #[s, x], argTypes := #[23, 23] })
    {B n : Nat} {v : Value} {xs : List Value} (hs : a.eval s = v) {i : TypeInfo} (hi : Try.prog.info? 3 = some i) (hown : w.ownsRow B 3 1 v n xs) (hx : a.eval x = .slice none 0 0) (h : K (a.put o.dst v) w) :
    if Region.wanted o (yielded ops a.tmps) = true then Oper.wp Try.prog o a w K Q else E := by
  have hw : Region.wanted o (yielded ops a.tmps) = true := by simp [Region.wanted, hgd]
  rw [if_pos hw]
  have hrun := run_append_owned_none (P := Try.prog) (w := w) B 23 o.type 3 i 1 Try.underlying23 hi v n xs hown
  unfold Oper.wp
  simp [execOp, ho, resolve, invoke, builtin, hs, hx, hrun, Result.andThen]
  exact h
end Go.Proofs.Ytjenkpgoggmboaa

/- Two graphs beside one another, as plain mathematics. -/
namespace Go.Proofs.Ytjenkpgoggmboaa
open Go.RowKit

theorem renum_zero (n : Nd) : renum (fun x => ((([] : List Nd).length : Nat) : Int) + x) n = n := by
  obtain ⟨k, s, u, a⟩ := n
  have h : a.map (fun x => ((([] : List Nd).length : Nat) : Int) + x) = a := by
    have : a.map (fun x => ((([] : List Nd).length : Nat) : Int) + x) = a.map id := List.map_congr_left (fun x _ => by simp)
    rw [this, List.map_id]
  simp only [renum, h]
theorem joinS_nil (a : Gf) : joinS ⟨[], []⟩ a = a := by
  obtain ⟨ns, rs⟩ := a
  have h1 : ns.map (renum (fun x => ((([] : List Nd).length : Nat) : Int) + x)) = ns := by
    have : ns.map (renum (fun x => ((([] : List Nd).length : Nat) : Int) + x)) = ns.map id := List.map_congr_left (fun x _ => renum_zero x)
    rw [this, List.map_id]
  have h2 : rs.map (fun x => ((([] : List Nd).length : Nat) : Int) + x) = rs := by
    have : rs.map (fun x => ((([] : List Nd).length : Nat) : Int) + x) = rs.map id := List.map_congr_left (fun x _ => by simp)
    rw [this, List.map_id]
  unfold joinS
  dsimp only
  rw [h1, h2]
  rfl
theorem join_one (a : Gf) : joinG [a] = a := joinS_nil a
theorem join_two (a b : Gf) : joinG [a, b] = joinS a b := by
  show joinS (joinS ⟨[], []⟩ a) b = joinS a b
  rw [joinS_nil]
theorem strange_mono {N M : Nat} {x : Int} (h : strange N x = false) (hN : N ≤ M) : strange M x = false := by
  have := strange_no h
  simp [strange]
  omega
theorem goodNd_args {N M : Nat} {n n' : Nd} (h : goodNd N n = true) (hk : n'.kind = n.kind) (hs : n'.name = n.name) (hu : n'.num = n.num) (hl : n'.args.length = n.args.length) (ha : ∀ x ∈ n'.args, 0 ≤ x ∧ x < (M : Int)) : goodNd M n' = true := by
  have hst : n'.args.any (strange M) = false := by
    rw [List.any_eq_false]
    intro x hx
    have := ha x hx
    simp [strange]
    omega
  unfold goodNd at h ⊢
  rw [hk, hs, hu, hl, hst]
  split
  · rename_i hk1
    rw [if_pos hk1] at h
    exact h
  · rename_i hk1
    rw [if_neg hk1] at h
    split
    · rename_i hk2
      rw [if_pos hk2] at h
      exact h
    · rename_i hk2
      rw [if_neg hk2] at h
      split
      · rename_i hk3
        rw [if_pos hk3] at h
        exact h
      · rename_i hk3
        rw [if_neg hk3] at h
        split
        · rename_i hk4
          rw [if_pos hk4] at h
          simp only [Bool.and_eq_true] at h ⊢
          exact ⟨h.1, rfl⟩
        · rename_i hk4
          rw [if_neg hk4] at h
          exact h
section
variable {a b : Gf}
theorem joinS_nodes : (joinS a b).nodes = a.nodes ++ b.nodes.map (renum (fun x => (a.nodes.length : Int) + x)) := rfl
theorem joinS_len : (joinS a b).nodes.length = a.nodes.length + b.nodes.length := by simp [joinS]
theorem joinS_left {x : Int} (h0 : 0 ≤ x) (h1 : x < a.nodes.length) : (joinS a b).argsOf x = a.argsOf x := by
  have hx : x.toNat < a.nodes.length := by omega
  unfold Gf.argsOf
  rw [joinS_nodes]
  simp [List.getD, List.getElem?_append_left hx]
theorem joinS_right {x : Int} (h0 : (a.nodes.length : Int) ≤ x) (h1 : x < ((joinS a b).nodes.length : Int)) : ∀ y ∈ (joinS a b).argsOf x, ∃ z ∈ b.argsOf (x - a.nodes.length), y = (a.nodes.length : Int) + z := by
  rw [joinS_len] at h1
  have hx : x.toNat = a.nodes.length + (x - a.nodes.length).toNat := by omega
  have hx2 : (x - (a.nodes.length : Int)).toNat < b.nodes.length := by omega
  intro y hy
  unfold Gf.argsOf at hy ⊢
  rw [joinS_nodes, hx] at hy
  simp only [List.getD, List.getElem?_append_right (Nat.le_add_right _ _), Nat.add_sub_cancel_left, List.getElem?_map, List.getElem?_eq_getElem hx2, Option.map_some, Option.getD_some, renum] at hy ⊢
  obtain ⟨z, hz, rfl⟩ := List.mem_map.1 hy
  exact ⟨z, hz, rfl⟩
theorem joinS_good_nodes (ha : Good a) (hb : Good b) : ∀ n ∈ (joinS a b).nodes, goodNd (joinS a b).nodes.length n = true := fun n hn => by
  rw [joinS_len]
  rw [joinS_nodes] at hn
  rcases List.mem_append.1 hn with h | h
  · have hg := ha.node n h
    exact goodNd_args hg rfl rfl rfl rfl (fun x hx => by have := (good_args hg).1 x hx; omega)
  · obtain ⟨n0, h0, rfl⟩ := List.mem_map.1 h
    have hg := hb.node n0 h0
    refine goodNd_args hg rfl rfl rfl (by simp [renum]) (fun x hx => ?_)
    obtain ⟨z, hz, rfl⟩ := List.mem_map.1 hx
    have := (good_args hg).1 z hz
    omega
theorem left_good (ha : Good a) (hb : Good b) (hs : a.nodes.length + b.nodes.length ≤ 4096) : Good ⟨(joinS a b).nodes, a.roots⟩ :=
  ⟨by show (joinS a b).nodes.length ≤ 4096; rw [joinS_len]; exact hs, ha.roots, joinS_good_nodes ha hb, fun x hx => by
    have := ha.root x hx
    show 0 ≤ x ∧ x < ((joinS a b).nodes.length : Int)
    rw [joinS_len]
    omega⟩
theorem right_good (ha : Good a) (hb : Good b) (hs : a.nodes.length + b.nodes.length ≤ 4096) : Good ⟨(joinS a b).nodes, b.roots.map (fun x => (a.nodes.length : Int) + x)⟩ :=
  ⟨by show (joinS a b).nodes.length ≤ 4096; rw [joinS_len]; exact hs, by simpa using hb.roots, joinS_good_nodes ha hb, fun x hx => by
    obtain ⟨z, hz, rfl⟩ := List.mem_map.1 hx
    have := hb.root z hz
    show 0 ≤ (a.nodes.length : Int) + z ∧ (a.nodes.length : Int) + z < ((joinS a b).nodes.length : Int)
    rw [joinS_len]
    omega⟩
theorem join_good2 (ha : Good a) (hb : Good b) (hs : a.nodes.length + b.nodes.length ≤ 4096) (hr : a.roots.length + b.roots.length ≤ 4096) : Good (joinS a b) :=
  ⟨by rw [joinS_len]; exact hs, by simpa [joinS] using hr, joinS_good_nodes ha hb, fun x hx => by
    rcases List.mem_append.1 hx with h | h
    · exact (left_good ha hb hs).root x h
    · exact (right_good ha hb hs).root x h⟩
theorem left_met (ha : Good a) : ∀ x ∈ metF ⟨(joinS a b).nodes, a.roots⟩, 0 ≤ x ∧ x < (a.nodes.length : Int) :=
  meet_in (fun x => 0 ≤ x ∧ x < (a.nodes.length : Int)) (fun x hx y hy => by
    have e : (⟨(joinS a b).nodes, a.roots⟩ : Gf).argsOf x = (joinS a b).argsOf x := rfl
    rw [e, joinS_left hx.1 hx.2] at hy
    exact (ha.args hx.1 hx.2).1 y hy) _ _ _ ha.root (by simp)
theorem right_met (hb : Good b) : ∀ x ∈ metF ⟨(joinS a b).nodes, b.roots.map (fun x => (a.nodes.length : Int) + x)⟩, (a.nodes.length : Int) ≤ x ∧ x < ((joinS a b).nodes.length : Int) :=
  meet_in (fun x => (a.nodes.length : Int) ≤ x ∧ x < ((joinS a b).nodes.length : Int)) (fun x hx y hy => by
    have e : (⟨(joinS a b).nodes, b.roots.map (fun x => (a.nodes.length : Int) + x)⟩ : Gf).argsOf x = (joinS a b).argsOf x := rfl
    rw [e] at hy
    obtain ⟨z, hz, rfl⟩ := joinS_right hx.1 hx.2 y hy
    rw [joinS_len] at hx ⊢
    have := (hb.args (x := x - a.nodes.length) (by omega) (by omega)).1 z hz
    omega) _ _ _ (fun x hx => by
    obtain ⟨z, hz, rfl⟩ := List.mem_map.1 hx
    have := hb.root z hz
    rw [joinS_len]
    omega) (by simp)
theorem join_path (ha : Good a) : ∀ (path : List Int) (x : Int), 0 ≤ x → x < (a.nodes.length : Int) → goF (joinS a b) x path = goF a x path
  | [], _, _, _ => rfl
  | s :: r, x, h0, h1 => by
    have e := joinS_left (b := b) h0 h1
    simp only [goF, e]
    split
    · rfl
    · rename_i hs
      have hlt : s.toNat < (a.argsOf x).length := by omega
      have := (ha.args h0 h1).1 _ (getD_mem hlt)
      exact join_path ha r _ this.1 this.2
end
/-- Join of two small graphs refuses just where one of them is not good. -/
theorem joinC_two (a b : Gf) (h1 : a.nodes.length + b.nodes.length ≤ 4096) (h2 : a.roots.length + b.roots.length ≤ 4096) :
    (joinC [a, b] = [] ∧ Good a ∧ Good b) ∨ (joinC [a, b] ≠ [] ∧ (one (chk a) ≠ [] ∨ (one (chk a) = [] ∧ one (chk b) ≠ []))) := by
  have t1 : totN [a, b] = a.nodes.length + b.nodes.length := by simp [totN]
  have t2 : totR [a, b] = a.roots.length + b.roots.length := by simp [totR]
  by_cases ga : one (chk a) = []
  · by_cases gb : one (chk b) = []
    · refine Or.inl ⟨?_, chk_good ga, chk_good gb⟩
      have hx : ixOf badG [a, b] = -1 := by simp [ixOf, badG, ga, gb]
      unfold joinC
      rw [hx, if_neg (by omega), if_neg (by omega), if_neg (by omega)]
    · refine Or.inr ⟨?_, Or.inr ⟨ga, gb⟩⟩
      have hx : ixOf badG [a, b] = 1 := by simp [ixOf, badG, ga, gb]
      unfold joinC
      rw [hx, if_pos (by omega)]
      simp
  · refine Or.inr ⟨?_, Or.inl ga⟩
    have hx : ixOf badG [a, b] = 0 := by simp [ixOf, badG, ga]
    unfold joinC
    rw [hx, if_pos (by omega)]
    simp
end Go.Proofs.Ytjenkpgoggmboaa

/- Which nodes are variables. -/
namespace Go.Proofs.Ytjenkpgoggmboaa
open Go.RowKit

/-- Is it a variable? -/
def isVar (g : Gf) (x : Int) : Bool := decide ((g.nodes.getD x.toNat nd0).kind = 1)
theorem filter_snoc (p : Int → Bool) {l : List Int} {k : Nat} (h : k < l.length) : (l.take (k + 1)).filter p = if p (l.getD k 0) = true then (l.take k).filter p ++ [l.getD k 0] else (l.take k).filter p := by
  rw [take_snoc h, List.filter_append]
  generalize l.getD k 0 = x
  by_cases e : p x = true
  · rw [if_pos e, List.filter_cons_of_pos e]
    rfl
  · rw [if_neg e, List.filter_cons_of_neg e]
    simp
end Go.Proofs.Ytjenkpgoggmboaa

/- Copies, least graphs and trimmed graphs: what is alike to what, as plain mathematics. -/
namespace Go.Proofs.Ytjenkpgoggmboaa
open Go.RowKit

section
variable {g : Gf}
theorem two_left {x : Int} (hx : isN g x) : (joinS g g).nd x = g.nd x := by
  have h : x.toNat < g.nodes.length := by have := hx.1; have := hx.2; omega
  unfold Gf.nd
  rw [joinS_nodes]
  simp [List.getD, List.getElem?_append_left h]
theorem two_right {x : Int} (hx : isN g x) : (joinS g g).nd ((g.nodes.length : Int) + x) = renum (fun y => (g.nodes.length : Int) + y) (g.nd x) := by
  have h0 := hx.1
  have h : x.toNat < g.nodes.length := by have := hx.2; omega
  have e : ((g.nodes.length : Int) + x).toNat = g.nodes.length + x.toNat := by omega
  unfold Gf.nd
  rw [joinS_nodes, e]
  simp [List.getD, h]
theorem two_isN1 {x : Int} (hx : isN g x) : isN (joinS g g) x := ⟨hx.1, by rw [joinS_len]; have := hx.2; omega⟩
theorem two_isN2 {x : Int} (hx : isN g x) : isN (joinS g g) ((g.nodes.length : Int) + x) := ⟨by have := hx.1; omega, by rw [joinS_len]; have := hx.2; omega⟩
theorem two_arg1 {x : Int} (hx : isN g x) (k : Nat) : (joinS g g).arg x k = g.arg x k := by
  unfold Gf.arg
  rw [two_left hx]
theorem two_arg2 {x : Int} (hx : isN g x) {k : Nat} (hk : k < (g.nd x).args.length) : (joinS g g).arg ((g.nodes.length : Int) + x) k = (g.nodes.length : Int) + g.arg x k := by
  unfold Gf.arg
  rw [two_right hx]
  simp [renum, List.getD, hk]
/-- The graph with one root. -/
def rootAt (g : Gf) (i : Nat) : Gf := ⟨g.nodes, [(i : Int)]⟩
theorem rootAt_good (hg : Good g) {i : Nat} (hi : i < g.nodes.length) : Good (rootAt g i) :=
  ⟨hg.nodes, by simp [rootAt], hg.node, fun x hx => by
    have : x = (i : Int) := by simpa [rootAt] using hx
    subst this
    show 0 ≤ (i : Int) ∧ (i : Int) < (g.nodes.length : Int)
    omega⟩
theorem copy_al (hg : Good g) {i : Nat} (hi : i < g.nodes.length) : Al (joinS g g) (i : Int) ((g.nodes.length : Int) + (i : Int)) ↔ (metF (rootAt g i)).filter (isVar (rootAt g i)) = [] := by
  have ho := rootAt_good hg hi
  have hrng : ∀ x ∈ metF (rootAt g i), isN g x := fun x hx => (met_ok ho).rng x hx
  constructor
  · intro h
    have hall : ∀ x ∈ metF (rootAt g i), isN g x ∧ Al (joinS g g) x ((g.nodes.length : Int) + x) := by
      refine meet_in (fun x => isN g x ∧ Al (joinS g g) x ((g.nodes.length : Int) + x)) (fun x hx y hy => ?_) _ _ _ (fun x hx => ?_) (by simp)
      · obtain ⟨hn, hal⟩ := hx
        obtain ⟨k, hk, rfl⟩ := list_mem_getD hy
        have hk' : k < (g.nd x).args.length := hk
        have ha := (al_sim _ _ _ hal).2.2.2 k (by rw [two_left hn]; exact hk')
        rw [two_arg1 hn, two_arg2 hn hk'] at ha
        exact ⟨arg_isN hg hn hk', ha⟩
      · have e : x = (i : Int) := by simpa [rootAt] using hx
        subst e
        exact ⟨⟨by omega, by omega⟩, h⟩
    rw [List.filter_eq_nil_iff]
    intro x hx hv
    obtain ⟨hn, hal⟩ := hall x hx
    have hl := (al_sim _ _ _ hal).2.2.1
    have hk : ((joinS g g).nd x).kind = 1 := by
      rw [two_left hn]
      simpa [isVar, rootAt, Gf.nd] using hv
    have := hl.2.2.2.2 hk
    omega
  · intro h
    rw [List.filter_eq_nil_iff] at h
    refine ⟨fun x y => x ∈ metF (rootAt g i) ∧ y = (g.nodes.length : Int) + x, fun x y hxy => ?_, met_root ho _ (by simp [rootAt]), rfl⟩
    obtain ⟨hx, rfl⟩ := hxy
    have hn := hrng x hx
    refine ⟨two_isN1 hn, two_isN2 hn, ?_, fun k hk => ?_⟩
    · unfold labE
      rw [two_left hn, two_right hn]
      refine ⟨rfl, rfl, rfl, by simp [renum], fun e => ?_⟩
      have := h x hx
      exact absurd (by simpa [isVar, rootAt, Gf.nd] using e) this
    · rw [two_left hn] at hk
      rw [two_arg1 hn, two_arg2 hn hk]
      exact ⟨met_arg ho x hx _ (getD_mem hk), rfl⟩
/-- Each node of the least graph is the number of a node that is met. -/
theorem least_sur (hg : Good g) {e : Nat → Nat → Bool} (hd : ∀ x y : Nat, (e x y = true ↔ Al g (x : Int) (y : Int))) {u : Int} (hu : isN (trimF (quoF e g)) u) : ∃ x ∈ metF g, lstI e g x = u := by
  have hq := quo_good hg (al_eqv hg hd)
  have hl := trim_len hq
  have h0 := hu.1
  have h1 := hu.2
  rw [hl] at h1
  have hc : ∀ c ∈ metF (quoF e g), ∃ x, x ∈ metF g ∧ clsI e g.nodes.length x = c := by
    refine meet_in (fun c => ∃ x, x ∈ metF g ∧ clsI e g.nodes.length x = c) (fun c hx y hy => ?_) _ _ _ (fun c hx => ?_) (by simp)
    · obtain ⟨x, hx, rfl⟩ := hx
      have hn : isN g x := (met_ok hg).rng x hx
      have hy' : y ∈ ((quoF e g).nd (clsI e g.nodes.length x)).args := hy
      rw [quo_nd hg hd hn] at hy'
      obtain ⟨z, hz, rfl⟩ := List.mem_map.1 hy'
      exact ⟨z, met_arg hg x hx z hz, rfl⟩
    · obtain ⟨z, hz, rfl⟩ := List.mem_map.1 hx
      exact ⟨z, met_root hg z hz, rfl⟩
  have hm : u.toNat < (metF (quoF e g)).length := by omega
  obtain ⟨x, hx, ex⟩ := hc _ (getD_mem hm)
  refine ⟨x, hx, ?_⟩
  unfold lstI
  rw [ex]
  unfold posF
  rw [if_pos (getD_mem hm), pos_of_getD (met_ok hq).nodup hm]
  omega
theorem least_pair (hg : Good g) {e : Nat → Nat → Bool} (hd : ∀ x y : Nat, (e x y = true ↔ Al g (x : Int) (y : Int))) : Pr (trimF (quoF e g)) g (fun u x => x ∈ metF g ∧ u = lstI e g x) := by
  refine ⟨fun u x ⟨hx, hu⟩ => ⟨by rw [hu]; exact least_rng hg hd hx, (met_ok hg).rng x hx⟩, fun u x ⟨hx, hu⟩ => ?_, fun u x ⟨hx, hu⟩ k hk => ?_, fun u x x' ⟨hx, hu⟩ ⟨hx', hu'⟩ hk => ?_, fun u u' x ⟨_, hu⟩ ⟨_, hu'⟩ _ => hu.trans hu'.symm, ?_, fun i hi => ?_⟩
  · subst hu
    rw [least_nd hg hd hx]
    exact ⟨rfl, rfl, rfl, by simp [renum]⟩
  · subst hu
    rw [least_nd hg hd hx] at hk
    have hk' : k < (g.nd x).args.length := by simpa [renum] using hk
    refine ⟨met_argk hg hx hk', ?_⟩
    unfold Gf.arg
    rw [least_nd hg hd hx]
    simp [renum, List.getD, hk']
  · subst hu
    have hal := (least_al hg hd hx hx').1 hu'
    rw [least_nd hg hd hx] at hk
    exact (al_sim g x x' hal).2.2.1.2.2.2.2 hk
  · rw [least_root]
    simp
  · rw [least_root] at hi ⊢
    have hi' : i < g.roots.length := by simpa using hi
    exact ⟨metF_root hg hi', by simp [List.getD, hi']⟩
theorem least_own (hg : Good g) {e : Nat → Nat → Bool} (hd : ∀ x y : Nat, (e x y = true ↔ Al g (x : Int) (y : Int))) {u v : Int} (h : Al (trimF (quoF e g)) u v) : u = v := by
  obtain ⟨hu, hv, _⟩ := al_sim _ _ _ h
  obtain ⟨x, hx, rfl⟩ := least_sur hg hd hu
  obtain ⟨y, hy, rfl⟩ := least_sur hg hd hv
  exact (least_al hg hd hx hy).2 ((least_pair hg hd).al ⟨hx, rfl⟩ ⟨hy, rfl⟩ h)
theorem trim_pair (hg : Good g) : Pr (trimF g) g (fun u x => x ∈ metF g ∧ u = posF (metF g) x) := by
  refine ⟨fun u x ⟨hx, hu⟩ => ⟨?_, (met_ok hg).rng x hx⟩, fun u x ⟨hx, hu⟩ => ?_, fun u x ⟨hx, hu⟩ k hk => ?_, fun u x x' ⟨hx, hu⟩ ⟨hx', hu'⟩ _ => pos_inj hg x hx x' hx' (hu.symm.trans hu'), fun u u' x ⟨_, hu⟩ ⟨_, hu'⟩ _ => hu.trans hu'.symm, by simp [trimF], fun i hi => ?_⟩
  · subst hu
    have := pos_rng hg x hx
    exact ⟨this.1, by rw [trim_len hg]; exact this.2⟩
  · subst hu
    have := trim_node hg x hx
    show ((trimF g).nodes.getD _ nd0).kind = _ ∧ ((trimF g).nodes.getD _ nd0).name = _ ∧ ((trimF g).nodes.getD _ nd0).num = _ ∧ ((trimF g).nodes.getD _ nd0).args.length = _
    rw [this]
    exact ⟨rfl, rfl, rfl, by simp [renum]; rfl⟩
  · subst hu
    have hnd : (trimF g).nd (posF (metF g) x) = renum (posF (metF g)) (g.nd x) := trim_node hg x hx
    rw [hnd] at hk
    have hk' : k < (g.nd x).args.length := by simpa [renum] using hk
    refine ⟨met_argk hg hx hk', ?_⟩
    unfold Gf.arg
    rw [hnd]
    simp [renum, List.getD, hk']
  · have hi' : i < g.roots.length := by simpa [trimF] using hi
    exact ⟨metF_root hg hi', by simp [trimF, List.getD, hi']⟩
end
theorem own_num {e : Nat → Nat → Bool} {N : Nat} (he : ∀ x y, x < N → y < N → e x y = true → x = y) : ∀ m, m ≤ N → csF e m = List.range m ∧ lsF e m = List.range m
  | 0, _ => ⟨rfl, rfl⟩
  | m + 1, hm => by
    obtain ⟨h1, h2⟩ := own_num he m (by omega)
    have hf : fnd (e m) (lsF e m) = m := by
      rw [h2, fnd_miss (fun x hx => ?_), List.length_range]
      have hx' := List.mem_range.1 hx
      cases h : e m x
      · rfl
      · have := he m x (by omega) (by omega) h
        omega
    rw [csF_succ, lsF_succ, hf, h1, h2, List.length_range, if_pos rfl, List.range_succ]
    exact ⟨rfl, rfl⟩
end Go.Proofs.Ytjenkpgoggmboaa

/- SolveGeneral: variables given nodes: plain data. -/
namespace Go.Proofs.Ytjenkpgoggmboaa
open Go.RowKit

/-- Is a node a variable that is given a node? -/
def stepV (ns : List Nd) (tos : List Int) (x : Nat) : Bool := decide ((ndN ns x).kind = 1) && decide (x < tos.length) && decide (0 ≤ tos.getD x 0) && decide (tos.getD x 0 < (ns.length : Int))
/-- Where a node leads in so many steps. -/
def plc (ns : List Nd) (tos : List Int) : Nat → Nat → Nat
  | 0, x => x
  | n + 1, x => if stepV ns tos x = true then plc ns tos n (tos.getD x 0).toNat else x
/-- Where a node leads. -/
def plF (ns : List Nd) (tos : List Int) (x : Nat) : Nat := plc ns tos (ns.length + 1) x
theorem stepV_iff {ns : List Nd} {tos : List Int} {x : Nat} : stepV ns tos x = true ↔ (ndN ns x).kind = 1 ∧ x < tos.length ∧ 0 ≤ tos.getD x 0 ∧ tos.getD x 0 < (ns.length : Int) := by
  simp only [stepV, Bool.and_eq_true, decide_eq_true_eq, and_assoc]
theorem plc_rng {ns : List Nd} {tos : List Int} : ∀ {n x : Nat}, x < ns.length → plc ns tos n x < ns.length
  | 0, _, h => h
  | n + 1, x, h => by
    unfold plc
    split
    · rename_i hs
      have := stepV_iff.1 hs
      exact plc_rng (by omega)
    · exact h
theorem plc_fix {ns : List Nd} {tos : List Int} {n x : Nat} (h : (ndN ns x).kind ≠ 1) : plc ns tos n x = x := by
  cases n with
  | zero => rfl
  | succ n =>
    unfold plc
    rw [if_neg (fun hs => h (stepV_iff.1 hs).1)]
theorem plF_rng {ns : List Nd} {tos : List Int} {x : Nat} (h : x < ns.length) : plF ns tos x < ns.length := plc_rng h
theorem plF_fix {ns : List Nd} {tos : List Int} {x : Nat} (h : (ndN ns x).kind ≠ 1) : plF ns tos x = x := plc_fix h
/-- The graph in which variables were given nodes. -/
def givenF (g : Gf) (tos : List Int) : Gf := ⟨(List.range g.nodes.length).map (fun i => renum (EI (plF g.nodes tos)) (ndN g.nodes (plF g.nodes tos i))), g.roots.map (EI (plF g.nodes tos))⟩
theorem given_len (g : Gf) (tos : List Int) : (givenF g tos).nodes.length = g.nodes.length := by simp [givenF]
theorem given_nd {g : Gf} {tos : List Int} {i : Nat} (h : i < g.nodes.length) : (givenF g tos).nd (i : Int) = renum (EI (plF g.nodes tos)) (ndN g.nodes (plF g.nodes tos i)) := by
  simp [givenF, Gf.nd, List.getD, h]
theorem given_good {g : Gf} (hg : Good g) (tos : List Int) : Good (givenF g tos) := by
  have hEI : ∀ z : Int, 0 ≤ z ∧ z < (g.nodes.length : Int) → 0 ≤ EI (plF g.nodes tos) z ∧ EI (plF g.nodes tos) z < (g.nodes.length : Int) := fun z hz => by
    have := plF_rng (tos := tos) (x := z.toNat) (ns := g.nodes) (by omega)
    unfold EI
    omega
  refine ⟨by rw [given_len]; exact hg.nodes, by simp [givenF]; exact hg.roots, fun n hn => ?_, fun z hz => ?_⟩
  · obtain ⟨i, hi, rfl⟩ := List.mem_map.1 hn
    rw [given_len]
    have hi' : i < g.nodes.length := by simpa using hi
    have hr := plF_rng (tos := tos) hi'
    have hgd : goodNd g.nodes.length (ndN g.nodes (plF g.nodes tos i)) = true := hg.node _ (by simp [ndN, List.getD, hr])
    exact renum_good hgd (fun z hz => hEI z ((good_args hgd).1 z hz))
  · obtain ⟨y, hy, rfl⟩ := List.mem_map.1 hz
    rw [given_len]
    exact hEI y (hg.root y hy)
section
variable {g : Gf} {tos : List Int}
theorem given_isN {x : Nat} (h : x < g.nodes.length) : isN (givenF g tos) (x : Int) := ⟨by omega, by rw [given_len]; omega⟩
theorem given_arg {x k : Nat} (h : x < g.nodes.length) (hk : (ndN g.nodes x).kind ≠ 1) (hkk : k < (ndN g.nodes x).args.length) : (givenF g tos).arg (x : Int) k = ((plF g.nodes tos (argN g.nodes x k) : Nat) : Int) := by
  unfold Gf.arg
  rw [given_nd h, plF_fix hk]
  exact map_getD hkk
/-- What leads tos no variable unfolds as that. -/
theorem pl_al (hg : Good g) {x : Nat} (h : x < g.nodes.length) (hk : (ndN g.nodes (plF g.nodes tos x)).kind ≠ 1) : Al (givenF g tos) (x : Int) ((plF g.nodes tos x : Nat) : Int) := by
  have hr := plF_rng (tos := tos) h
  have hh := given_good hg tos
  have e : (givenF g tos).nd (x : Int) = (givenF g tos).nd ((plF g.nodes tos x : Nat) : Int) := by rw [given_nd h, given_nd hr, plF_fix hk]
  have hkd : ((givenF g tos).nd (x : Int)).kind ≠ 1 := by rw [given_nd h]; exact hk
  refine ⟨fun a b => (a = b ∧ isN (givenF g tos) a) ∨ (a = (x : Int) ∧ b = ((plF g.nodes tos x : Nat) : Int)), fun a b hab => ?_, Or.inr ⟨rfl, rfl⟩⟩
  rcases hab with ⟨rfl, ha⟩ | ⟨rfl, rfl⟩
  · exact ⟨ha, ha, labE_refl _ _, fun k hk => Or.inl ⟨rfl, arg_isN hh ha hk⟩⟩
  · refine ⟨given_isN h, given_isN hr, ⟨by rw [e], by rw [e], by rw [e], by rw [e], fun e1 => absurd e1 hkd⟩, fun k hk2 => Or.inl ⟨?_, arg_isN hh (given_isN h) hk2⟩⟩
    unfold Gf.arg
    rw [e]
/-- Two nodes lead tos what unfolds alike. -/
def GvR (g : Gf) (tos : List Int) (x y : Nat) : Prop := x = y ∨ (x < g.nodes.length ∧ y < g.nodes.length ∧ Al (givenF g tos) ((plF g.nodes tos x : Nat) : Int) ((plF g.nodes tos y : Nat) : Int))
theorem gv_cg (hg : Good g) : Cg g.nodes (GvR g tos) := by
  have hA := goodA_of hg
  refine ⟨⟨fun _ => Or.inl rfl, fun x y h => ?_, fun x y z h k => ?_⟩, fun x y hx hy h hkx hky => ?_⟩
  · rcases h with rfl | ⟨h1, h2, h3⟩
    · exact Or.inl rfl
    · exact Or.inr ⟨h2, h1, al_symm h3⟩
  · rcases h with rfl | ⟨h1, h2, h3⟩
    · exact k
    · rcases k with rfl | ⟨_, k2, k3⟩
      · exact Or.inr ⟨h1, h2, h3⟩
      · exact Or.inr ⟨h1, k2, al_trans h3 k3⟩
  · rcases h with rfl | ⟨_, _, h3⟩
    · exact ⟨labS.refl _, fun _ _ => Or.inl rfl⟩
    · rw [plF_fix hkx, plF_fix hky] at h3
      obtain ⟨i1, i2, l, ar⟩ := al_sim _ _ _ h3
      unfold labE at l
      rw [given_nd hx, given_nd hy, plF_fix hkx, plF_fix hky] at l
      have l4 : (ndN g.nodes x).args.length = (ndN g.nodes y).args.length := by have := l.2.2.2.1; simpa [renum] using this
      refine ⟨⟨l.1, l.2.1, l.2.2.1, l4⟩, fun k hk => Or.inr ⟨(hA.arg x hx k hk).2, (hA.arg y hy k (by rw [← l4]; exact hk)).2, ?_⟩⟩
      have := ar k (by rw [given_nd hx, plF_fix hkx]; simpa [renum] using hk)
      rw [given_arg hx hkx hk, given_arg hy hky (by rw [← l4]; exact hk)] at this
      exact this
theorem gv_pair (hg : Good g) {x y : Nat} (hx : x < g.nodes.length) (hy : y < g.nodes.length) (h : Al (givenF g tos) (x : Int) (y : Int)) : GvR g tos x y := by
  have hl := (al_sim _ _ _ h).2.2.1
  have e1 : ((givenF g tos).nd (x : Int)).kind = (ndN g.nodes (plF g.nodes tos x)).kind := by rw [given_nd hx]; rfl
  have e2 : ((givenF g tos).nd (y : Int)).kind = (ndN g.nodes (plF g.nodes tos y)).kind := by rw [given_nd hy]; rfl
  by_cases hk : (ndN g.nodes (plF g.nodes tos x)).kind = 1
  · have := hl.2.2.2.2 (e1.trans hk)
    exact Or.inl (by omega)
  · have hk2 : (ndN g.nodes (plF g.nodes tos y)).kind ≠ 1 := fun e => hk (by rw [← e1, hl.1, e2, e])
    exact Or.inr ⟨hx, hy, al_trans (al_symm (pl_al hg hx hk)) (al_trans h (pl_al hg hy hk2))⟩
/-- What was given is an instance of what was made one. -/
theorem gv_ins (hg : Good g) {P : List (Nat × Nat)} {E : Nat → Nat} (hU : Un g.nodes P E []) (hP : ∀ p ∈ P, GvR g tos p.1 p.2) : Ins (gE g.nodes g.roots E) (givenF g tos) (fun x y => ∃ z : Nat, z < g.nodes.length ∧ x = ((E z : Nat) : Int) ∧ Al (givenF g tos) y ((plF g.nodes tos z : Nat) : Int)) := by
  have hA := goodA_of hg
  have hh := given_good hg tos
  have hmin := hU.done.2.2 _ (gv_cg (tos := tos) hg) hP
  have hgv : ∀ a b, a < g.nodes.length → E a = E b → b < g.nodes.length → Al (givenF g tos) ((plF g.nodes tos a : Nat) : Int) ((plF g.nodes tos b : Nat) : Int) := fun a b ha he hb => by
    rcases hmin a b he with rfl | ⟨_, _, h⟩
    · exact al_refl hh (given_isN (plF_rng ha))
    · exact h
  have hl : (gE g.nodes g.roots E).nodes.length = g.nodes.length := by simp [gE]
  have key : ∀ z, z < g.nodes.length → (ndN g.nodes (E z)).kind ≠ 1 → ∀ y, Al (givenF g tos) y ((plF g.nodes tos z : Nat) : Int) → Al (givenF g tos) y ((E z : Nat) : Int) := fun z hz hk y hy => by
    have h1 := hgv z (E z) hz (hU.idem z).symm (hU.rng z hz)
    rw [plF_fix hk] at h1
    exact al_trans hy h1
  refine ⟨fun x y ⟨z, hz, e, hy⟩ => ⟨?_, (al_sim _ _ _ hy).1⟩, fun x y ⟨z, hz, e, hy⟩ hk => ?_, fun x y ⟨z, hz, e, hy⟩ hk k hkk => ?_, fun x y y' ⟨z, hz, e, hy⟩ ⟨z', hz', e', hy'⟩ hk => ?_, by simp [gE, givenF], fun i hi => ?_⟩
  · have := hU.rng z hz
    subst e
    exact ⟨by omega, by rw [hl]; omega⟩
  · subst e
    have hr := hU.rng z hz
    rw [gE_nd hr] at hk ⊢
    have hk' : (ndN g.nodes (E z)).kind ≠ 1 := hk
    obtain ⟨_, _, l, _⟩ := al_sim _ _ _ (key z hz hk' y hy)
    unfold labE at l
    rw [given_nd hr, plF_fix hk'] at l
    exact ⟨l.1.symm, l.2.1.symm, l.2.2.1.symm, by have := l.2.2.2.1; simpa [renum] using this.symm⟩
  · subst e
    have hr := hU.rng z hz
    rw [gE_nd hr] at hk hkk
    have hk' : (ndN g.nodes (E z)).kind ≠ 1 := hk
    have hkk' : k < (ndN g.nodes (E z)).args.length := by simpa [renum] using hkk
    obtain ⟨_, _, l, ar⟩ := al_sim _ _ _ (key z hz hk' y hy)
    unfold labE at l
    rw [given_nd hr, plF_fix hk'] at l
    have a1 := ar k (by rw [l.2.2.2.1]; simpa [renum] using hkk')
    rw [given_arg hr hk' hkk'] at a1
    refine ⟨argN g.nodes (E z) k, (hA.arg _ hr k hkk').2, ?_, a1⟩
    unfold Gf.arg
    rw [gE_nd hr]
    exact map_getD hkk'
  · have he : E z = E z' := by omega
    exact al_trans hy (al_trans (hgv z z' hz he hz') (al_symm hy'))
  · have hi' : i < g.roots.length := by simpa [gE] using hi
    have hrt := hg.root _ (getD_mem hi')
    have e1 : (gE g.nodes g.roots E).roots.getD i 0 = EI E (g.roots.getD i 0) := map_getD hi'
    have e2 : (givenF g tos).roots.getD i 0 = EI (plF g.nodes tos) (g.roots.getD i 0) := map_getD hi'
    rw [e1, e2]
    exact ⟨(g.roots.getD i 0).toNat, by omega, rfl, al_refl hh (given_isN (plF_rng (by omega)))⟩
/-- What was given is an instance of the most general solution. -/
theorem gv_least (hg : Good g) {ps : List (Int × Int)} {t : Gf} (h : LeastS g ps t) (hP : ∀ p ∈ ps.map natP, GvR g tos p.1 p.2) : ∃ S, Ins t (givenF g tos) S := by
  obtain ⟨E, ee, hU, hd, rfl⟩ := h
  have h1 := gE_good hg hU.rng
  exact (pr_ins h1 (least_pair h1 hd)).trans (gv_ins hg hU hP)
theorem gv_sol (hg : Good g) {ps : List (Int × Int)} (hP : ∀ p ∈ ps.map natP, GvR g tos p.1 p.2) : ¬ NoSol g.nodes (ps.map natP) := fun h => h _ (gv_cg hg) hP
end
end Go.Proofs.Ytjenkpgoggmboaa

/- given of package tendrillaw10: what lies in memory. -/
namespace Go.Proofs.Ytjenkpgoggmboaa
open Go.RowKit

/-- The first values of a function, the rest nought. -/
def fJ (f : Nat → Nat) (N j : Nat) : List Nat := (List.range N).map (fun i => if i < j then f i else 0)
theorem fJ_len (f : Nat → Nat) (N j : Nat) : (fJ f N j).length = N := by simp [fJ]
theorem fJ_get {f : Nat → Nat} {N j i : Nat} (h : i < N) : (fJ f N j).getD i 0 = if i < j then f i else 0 := by simp [fJ, List.getD, h]
theorem fJ_zero (f : Nat → Nat) (N : Nat) : (ints (fJ f N 0)).map (Value.int .i64) = List.replicate N (.int .i64 0) := by
  apply List.ext_getElem
  · simp [ints, fJ]
  · intro i h1 h2
    simp [ints, fJ]
theorem fJ_step {f : Nat → Nat} {N j : Nat} : (fJ f N j).set j (f j) = fJ f N (j + 1) := by
  apply List.ext_getElem
  · simp [fJ]
  · intro i h1 h2
    by_cases e : j = i
    · subst e
      simp [fJ]
    · have h3 : i < N := by simpa [fJ] using h2
      rw [List.getElem_set_ne e]
      simp only [fJ, List.getElem_map, List.getElem_range]
      by_cases h4 : i < j
      · rw [if_pos h4, if_pos (by omega)]
      · rw [if_neg h4, if_neg (by omega)]
/-- The row of places. -/
structure Gv1 (W : World) (nv rv : Value) (pb N : Nat) (L : List Nat) (w : World) : Prop where
  s : Sb W nv rv w
  p : w.ownsRow (W.heap.size + 1 + 1) 3 1 (.slice (some ⟨pb, 0, none⟩) N N) N ((ints L).map (Value.int .i64))
  l : L.length = N
section
variable {W w w' : World} {nv rv : Value} {pb N : Nat} {L : List Nat}
theorem Gv1.next (h : Gv1 W nv rv pb N L w) (hb : Below w.heap.size w w') : Gv1 W nv rv pb N L w' := ⟨h.s.next hb, row_keep h.p (fun k hk => hb.block k (h.p.lt k hk).2), h.l⟩
theorem Gv1.lo (h : Gv1 W nv rv pb N L w) : W.heap.size + 1 + 1 ≤ pb ∧ pb < w.heap.size := h.p.lt pb rfl
theorem Gv1.cell (h : Gv1 W nv rv pb N L w) {i : Nat} (hi : i < N) : w.cell? ⟨pb, i, none⟩ = some (.int .i64 ((L.getD i 0 : Nat) : Int)) ∧ w.frozen? ⟨pb, i, none⟩ = false :=
  ⟨by rw [h.p.cellAt i (by omega)]; exact ints_at (by rw [h.l]; exact hi), h.p.frozenAt i⟩
theorem Gv1.set (h : Gv1 W nv rv pb N L w) (n v : Nat) : Gv1 W nv rv pb N (L.set n v) (w.setCell ⟨pb, n, none⟩ (.int .i64 (v : Int))) := by
  obtain ⟨h1, h2⟩ := h.lo
  refine ⟨⟨(Below.heap_setCell _ _ _ _ (by show W.heap.size ≠ pb; omega)).trans h.s.g, (Below.heap_setCell _ _ _ _ (by show W.heap.size + 1 ≠ pb; omega)).trans h.s.r, h.s.b.setCell (p := ⟨pb, n, none⟩) (by show W.heap.size ≤ pb; omega) _⟩, ?_, by simp [h.l]⟩
  have h3 := (World.ownsRow.stored h.p n (.int .i64 (v : Int))).1
  rw [ints_set] at h3
  exact h3
theorem Gv1.box (h : Gv1 W nv rv pb N L w) : (w.cell? ⟨W.heap.size, 0, none⟩ = some nv ∧ w.cell? ⟨W.heap.size, 1, none⟩ = some rv) ∧ W.heap.size < w.heap.size := by
  obtain ⟨a, _⟩ := blk2y h.s.g
  exact ⟨a, lt_of_block h.s.g⟩
end
theorem gv1_start {W w1 : World} {nv rv : Value} {N : Nat} (f : Nat → Nat) (hown : w1.ownsRow (W.heap.size + 1 + 1) 3 1 (.slice (some ⟨((W.alloc (.cells #[nv, rv] 25)).alloc grZ).heap.size, 0, none⟩) N N) N (madeCells (Value.int .i64 0).cells (N * 1)).toList) (hgrow : ((W.alloc (.cells #[nv, rv] 25)).alloc grZ).grownBy w1 none) : Gv1 W nv rv (W.heap.size + 1 + 1) N (fJ f N 0) w1 := by
  have hsz : ((W.alloc (.cells #[nv, rv] 25)).alloc grZ).heap.size = W.heap.size + 1 + 1 := by simp
  rw [hsz] at hown
  refine ⟨(Sb.new W nv rv).next ((Below.refl _ _).grown hgrow (Nat.le_refl _) (fun _ e => by cases e)), ?_, fJ_len _ _ _⟩
  rw [fJ_zero]
  rw [show (madeCells (Value.int .i64 0).cells (N * 1)).toList = List.replicate N (.int .i64 0) by rw [Nat.mul_one]; simp [Value.cells, toList_madeCells_one]] at hown
  exact hown
theorem Gv1.nd {W w : World} {na : Option Addr} {nc : Nat} {rv : Value} {pb N : Nat} {L : List Nat} {g : Gf} (h : Gv1 W (.slice na g.nodes.length nc) rv pb N L w) (hG : Gr W (.slice na g.nodes.length nc) rv g) {x : Nat} (hx : x < g.nodes.length) : ∃ b o aa ac, na = some ⟨b, o, none⟩ ∧ (w.cell? ⟨b, o + x * 4, none⟩ = some (.int .i64 (ndN g.nodes x).kind) ∧ w.cell? ⟨b, o + x * 4 + 1, none⟩ = some (.string (ndN g.nodes x).name) ∧ w.cell? ⟨b, o + x * 4 + 2, none⟩ = some (.int .i64 (ndN g.nodes x).num) ∧ w.cell? ⟨b, o + x * 4 + 3, none⟩ = some (.slice aa (ndN g.nodes x).args.length ac)) ∧ Ri W (.slice aa (ndN g.nodes x).args.length ac) (ndN g.nodes x).args := by
  obtain ⟨na', nc', e, hc⟩ := hG.1
  injection e with e1 _ _
  subst e1
  obtain ⟨b, o, av, rfl, h0⟩ := hc x hx
  obtain ⟨p0, p1, p2, p3, _⟩ := h0.below h.s.b
  obtain ⟨aa, ac, rfl, ha⟩ := h0.2.2.2.2
  exact ⟨b, o, aa, ac, rfl, ⟨p0, p1, p2, p3⟩, aa, ac, rfl, ha⟩
/-- Roots are laid: the rest stays. -/
theorem Gp.rooted {S : Nat} {w w' : World} {gb : Nat} {gv rv rv2 : Value} {avs : List Value} {nds : List Nd} {rts rts2 : List Int} (h : Gp S w gb gv rv avs nds rts) (hm : Mo (fun k => k = gb) w w') (hb : w'.heap[gb]? = some (.cells #[gv, rv2] 25)) (hr : w'.ownsRow S 3 1 rv2 rts2.length (rts2.map (Value.int .i64))) : Gp S w' gb gv rv2 avs nds rts2 := by
  have kr : ∀ {e : TypeId} {z : Nat} {v : Value} {n : Nat} {xs : List Value}, e ≠ 25 → w.ownsRow S e z v n xs → w'.ownsRow S e z v n xs := fun hne ho => row_keep ho (fun k hk => by
    obtain ⟨cur, hc⟩ := row_obj ho hk
    exact hm.block k (ho.lt k hk).2 (obj_ne hc h.box hne))
  refine ⟨h.lo, hb, kr (by decide) h.n, h.len, fun j hj => ?_, hr⟩
  obtain ⟨ao, c, e, ho⟩ := h.a j hj
  exact ⟨ao, c, e, kr (by decide) ho⟩
theorem Gv1.mo {W w w' : World} {nv rv : Value} {pb N q : Nat} {L : List Nat} (h : Gv1 W nv rv pb N L w) (hm : Mo (fun k => k = q) w w') (hq : pb < q) : Gv1 W nv rv pb N L w' := by
  obtain ⟨h1, h2⟩ := h.lo
  refine ⟨⟨(hm.block _ (lt_of_block h.s.g) (by omega)).trans h.s.g, (hm.block _ (lt_of_block h.s.r) (by omega)).trans h.s.r, h.s.b.trans (hm.below (fun k hk => by omega) h.s.b.size)⟩, row_keep h.p (fun k hk => ?_), h.l⟩
  have e : pb = k := by simpa [Value.ownBlock] using hk
  exact hm.block k (by omega) (by omega)
/-- Roots are laid, one more. -/
structure Gr5 (w3 : World) (ob : Nat) (nv rv : Value) (k : Nat) (xs : List Value) (wr : World) : Prop where
  m : Mo (fun q => q = ob) w3 wr
  b : wr.heap[ob]? = some (.cells #[nv, rv] 25)
  o : wr.ownsRow w3.heap.size 3 1 rv k xs
theorem Gr5.push {w3 wr w5 : World} {ob : Nat} {nv : Value} {ao : Option Addr} {k c gg cap : Nat} {y : Int} {xs : List Value} (h : Gr5 w3 ob nv (.slice ao k c) k xs wr) (hob : ob < w3.heap.size) (hown : w5.ownsRow w3.heap.size 3 1 (.slice (some ⟨gg, 0, none⟩) (k + 1) cap) (k + 1) (xs ++ [.int .i64 y])) (hg : (wr.alloc (.cells #[.int .i64 y] 3)).drew.grownBy w5 (Value.slice ao k c).ownBlock) :
    w5.heap[ob]? = some (.cells #[nv, .slice ao k c] 25) ∧ Gr5 w3 ob nv (.slice (some ⟨gg, 0, none⟩) (k + 1) cap) (k + 1) (xs ++ [.int .i64 y]) (w5.setCell ⟨ob, 1, none⟩ (.slice (some ⟨gg, 0, none⟩) (k + 1) cap)) := by
  have hs := h.m.size
  have hlo := fun q hq => (h.o.lt q hq).1
  have b5 : w5.heap[ob]? = some (.cells #[nv, .slice ao k c] 25) := by
    rw [hg.block ob (by simp; omega) (fun e => by have := hlo ob e.symm; omega)]
    exact (Below.heap_alloc _ _ _ (by omega)).trans h.b
  refine ⟨b5, ?_, ?_, ?_⟩
  · exact (((h.m.alloc _).drew).grown hg (fun q hq => Or.inr (hlo q hq))).setCell (p := ⟨ob, 1, none⟩) (Or.inl rfl) _
  · exact blk2_set1 b5
  · refine row_keep hown (fun q hq => Below.heap_setCell _ _ _ _ ?_)
    have := (hown.lt q hq).1
    show q ≠ ob
    omega
theorem cut_new (w : World) (o : Obj) : Below w.heap.size w (w.alloc o).drew ∧ (w.alloc o).drew.heap[w.heap.size]? = some o ∧ (w.alloc o).drew.heap.size = w.heap.size + 1 :=
  ⟨(below_alloc w o).drew, heap_alloc_new w o, by simp⟩
/-- The node's box gets its arguments: the graph that is built stays. -/
theorem giv_set {S gb : Nat} {w4 wk : World} {gv rv v : Value} {avs : List Value} {nds : List Nd} {rts : List Int} {n : Nat} {xs : List Value} (h : Gp S w4 gb gv rv avs nds rts) (hb : Below w4.heap.size w4 wk) (ho : wk.ownsRow (w4.heap.size + 1) 3 1 v n xs) : Gp S (wk.setCell ⟨w4.heap.size, 3, none⟩ v) gb gv rv avs nds rts ∧ (wk.setCell ⟨w4.heap.size, 3, none⟩ v).ownsRow S 3 1 v n xs ∧ Below S w4 (wk.setCell ⟨w4.heap.size, 3, none⟩ v) := by
  have hS : S ≤ w4.heap.size := by have := lt_of_block h.box; have := h.lo; omega
  refine ⟨h.keep (fun k h1 h2 => ?_), ?_, (hb.mono hS).setCell (p := ⟨w4.heap.size, 3, none⟩) hS _⟩
  · rw [Below.heap_setCell _ _ _ _ (by show k ≠ w4.heap.size; omega), hb.block k h2]
  · refine row_keep (own_base ho (by omega)) (fun k hk => Below.heap_setCell _ _ _ _ ?_)
    have := (ho.lt k hk).1
    show k ≠ w4.heap.size
    omega
theorem giv_push {S gb : Nat} {w w9 : World} {rv : Value} {ao : Option Addr} {j c : Nat} {avs : List Value} {nds : List Nd} {rts : List Int} {nd : Nd} {ao4 : Option Addr} {c4 g cap : Nat} {o : Obj} (h : Gp S w gb (.slice ao j c) rv avs nds rts) (hj : nds.length = j) (ha : w.ownsRow S 3 1 (.slice ao4 nd.args.length c4) nd.args.length (nd.args.map (Value.int .i64)))
    (hown : w9.ownsRow S 65 4 (.slice (some ⟨g, 0, none⟩) (j + 1) cap) (j + 1) (ncells nds avs ++ [.int .i64 nd.kind, .string nd.name, .int .i64 nd.num, .slice ao4 nd.args.length c4])) (hg : (w.alloc o).grownBy w9 (Value.slice ao j c).ownBlock) :
    (w9.cell? ⟨gb, 0, none⟩ = some (.slice ao j c) ∧ w9.frozen? ⟨gb, 0, none⟩ = false ∧ gb < w9.heap.size) ∧ (∃ avs', Gp S (w9.setCell ⟨gb, 0, none⟩ (.slice (some ⟨g, 0, none⟩) (j + 1) cap)) gb (.slice (some ⟨g, 0, none⟩) (j + 1) cap) rv avs' (nds ++ [nd]) rts) ∧ Below S w (w9.setCell ⟨gb, 0, none⟩ (.slice (some ⟨g, 0, none⟩) (j + 1) cap)) := by
  subst hj
  have hs6 := hg.size
  simp at hs6
  have hzb := lt_of_block h.box
  have hlo := h.lo
  have hnb : ∀ k, (Value.slice ao nds.length c).ownBlock = some k → S ≤ k ∧ k ≠ gb := fun k hk => by
    obtain ⟨cur, hc⟩ := row_obj h.n hk
    exact ⟨(h.n.lt k hk).1, obj_ne hc h.box (by decide)⟩
  have b6 : w9.heap[gb]? = some (.cells #[.slice ao nds.length c, rv] 25) := by
    rw [hg.block gb (by simp; omega) (fun e => (hnb gb e.symm).2 rfl), Below.heap_alloc _ _ _ hzb]
    exact h.box
  refine ⟨⟨by simp [World.cell?, b6], by simp [World.frozen?, b6], lt_of_block b6⟩, ⟨_, h.push ha hown hg⟩, ?_⟩
  exact (((Below.refl _ _).alloc (by omega) o).grown hg (by simp; omega) (fun k hk => (hnb k hk).1)).setCell (p := ⟨gb, 0, none⟩) hlo _
theorem take_map1 {α : Type} {l : List Int} {f : Int → α} {k : Nat} (h : k < l.length) : (l.map f).take (k + 1) = (l.map f).take k ++ [f (l.getD k 0)] := by
  rw [List.take_add_one]
  simp [List.getD, h]
end Go.Proofs.Ytjenkpgoggmboaa

/- SolveGeneral, walked. -/
namespace Go.Proofs.Ytjenkpgoggmboaa
open Go.RowKit

section
variable {W : World} {a0 a1 a2 a3 : Option Addr} {m0 m1 m2 m3 c0 c1 c2 c3 : Nat}
set_option maxRecDepth 100000 in
set_option maxHeartbeats 4000000 in
theorem sgen_short0 (hsm : ∀ w, Below W.heap.size W w → Calls Try.prog 22 #[.agg #[.slice a0 m0 c0, .slice a1 m1 c1], .int .i64 120] w fun e w' => e = .returned (.bool false) ∧ Below w.heap.size w w') :
    Calls Try.prog 6 #[.agg #[.slice a0 m0 c0, .slice a1 m1 c1], .slice a2 m2 c2, .slice a3 m3 c3] W fun e w' => e = .returned (.bool true) ∧ Below W.heap.size W w' := by
  have HB := hid (Ob.start W (.slice a0 m0 c0) (.slice a1 m1 c1))
  have Hsm := hid hsm
  clear hsm
  go_enter Try.func6, Try.ntmps6
  go_wp2_with (first
    | (go_at_call 9; refine (slives_any _).mono ?_; rintro e w1 ⟨rfl, hb1⟩; replace HB := hid (HB.out.next hb1); clear hb1; obtain ⟨⟨x0, x1⟩, x2⟩ := HB.out.cells)
    | (go_at_call 22; refine (Hsm.out _ HB.out.b).mono ?_; rintro e w1 ⟨rfl, hb1⟩; replace HB := hid (HB.out.next hb1); clear hb1; obtain ⟨⟨x0, x1⟩, x2⟩ := HB.out.cells))
  go_ret
  exact ⟨rfl, HB.out.b⟩
set_option maxRecDepth 100000 in
set_option maxHeartbeats 4000000 in
theorem sgen_short1 (hsm : ∀ w, Below W.heap.size W w → Calls Try.prog 22 #[.agg #[.slice a0 m0 c0, .slice a1 m1 c1], .int .i64 120] w fun e w' => e = .returned (.bool true) ∧ Below w.heap.size w w') (hm : 60 < m2) :
    Calls Try.prog 6 #[.agg #[.slice a0 m0 c0, .slice a1 m1 c1], .slice a2 m2 c2, .slice a3 m3 c3] W fun e w' => e = .returned (.bool true) ∧ Below W.heap.size W w' := by
  have HB := hid (Ob.start W (.slice a0 m0 c0) (.slice a1 m1 c1))
  have Hsm := hid hsm
  have hm' : (60 : Int) < (m2 : Int) := by omega
  clear hsm
  go_enter Try.func6, Try.ntmps6
  go_wp2_with (first
    | (go_at_call 9; refine (slives_any _).mono ?_; rintro e w1 ⟨rfl, hb1⟩; replace HB := hid (HB.out.next hb1); clear hb1; obtain ⟨⟨x0, x1⟩, x2⟩ := HB.out.cells)
    | (go_at_call 22; refine (Hsm.out _ HB.out.b).mono ?_; rintro e w1 ⟨rfl, hb1⟩; replace HB := hid (HB.out.next hb1); clear hb1; obtain ⟨⟨x0, x1⟩, x2⟩ := HB.out.cells))
  go_ret
  exact ⟨rfl, HB.out.b⟩
set_option maxRecDepth 100000 in
set_option maxHeartbeats 4000000 in
theorem sgen_bad (hsm : ∀ w, Below W.heap.size W w → Calls Try.prog 22 #[.agg #[.slice a0 m0 c0, .slice a1 m1 c1], .int .i64 120] w fun e w' => e = .returned (.bool true) ∧ Below w.heap.size w w') (hm : ¬ 60 < m2) (hck : ∀ w, Below W.heap.size W w → Calls Try.prog 25 #[.agg #[.slice a0 m0 c0, .slice a1 m1 c1]] w fun e w' => (∃ b, e = .returned (.iface 75 (.pointer (some ⟨b, 0, none⟩)))) ∧ Below w.heap.size w w') :
    Calls Try.prog 6 #[.agg #[.slice a0 m0 c0, .slice a1 m1 c1], .slice a2 m2 c2, .slice a3 m3 c3] W fun e w' => e = .returned (.bool true) ∧ Below W.heap.size W w' := by
  have HB := hid (Ob.start W (.slice a0 m0 c0) (.slice a1 m1 c1))
  have Hsm := hid hsm
  have Hck := hid hck
  have hm' : ¬ ((60 : Int) < (m2 : Int)) := by omega
  clear hsm hck
  go_enter Try.func6, Try.ntmps6
  go_wp2_with (first
    | (go_at_call 9; refine (slives_any _).mono ?_; rintro e w1 ⟨rfl, hb1⟩; replace HB := hid (HB.out.next hb1); clear hb1; obtain ⟨⟨x0, x1⟩, x2⟩ := HB.out.cells)
    | (go_at_call 22; refine (Hsm.out _ HB.out.b).mono ?_; rintro e w1 ⟨rfl, hb1⟩; replace HB := hid (HB.out.next hb1); clear hb1; obtain ⟨⟨x0, x1⟩, x2⟩ := HB.out.cells)
    | (go_at_call 25; refine (Hck.out _ HB.out.b).mono ?_; rintro e w1 ⟨⟨q, rfl⟩, hb1⟩; replace HB := hid (HB.out.next hb1); clear hb1; obtain ⟨⟨x0, x1⟩, x2⟩ := HB.out.cells))
  go_ret
  exact ⟨rfl, HB.out.b⟩
end
/-- The boxes of SolveGeneral, kept. -/
structure Sg (W : World) (nv rv : Value) (hb : Nat) (nh rh : Value) (tg : Gf) (w : World) : Prop where
  b : Below W.heap.size W w
  g : w.heap[W.heap.size]? = some (.cells #[nv, rv] 25)
  h : w.heap[hb]? = some (.cells #[nh, rh] 25)
  q : Gr w nh rh tg
theorem Sg.next {W w w' : World} {nv rv nh rh : Value} {hb : Nat} {tg : Gf} (x : Sg W nv rv hb nh rh tg w) (k : Below w.heap.size w w') : Sg W nv rv hb nh rh tg w' :=
  ⟨x.b.trans (k.mono x.b.size), (k.block _ (lt_of_block x.g)).trans x.g, (k.block _ (lt_of_block x.h)).trans x.h, x.q.below k⟩
set_option maxRecDepth 100000 in
set_option maxHeartbeats 16000000 in
theorem sgen_main {W : World} {a0 a1 a2 a3 : Option Addr} {m0 m1 m2 m3 c0 c1 c2 c3 : Nat} {h : Gf} {ok : Nat → Nat}
    (hsm : ∀ w, Below W.heap.size W w → Calls Try.prog 22 #[.agg #[.slice a0 m0 c0, .slice a1 m1 c1], .int .i64 120] w fun e w' => e = .returned (.bool true) ∧ Below w.heap.size w w') (hm : ¬ 60 < m2)
    (hck : ∀ w, Below W.heap.size W w → Calls Try.prog 25 #[.agg #[.slice a0 m0 c0, .slice a1 m1 c1]] w fun e w' => e = .returned .nilIface ∧ Below w.heap.size w w')
    (hgi : ∀ w, Below W.heap.size W w → Calls Try.prog 26 #[.agg #[.slice a0 m0 c0, .slice a1 m1 c1], .slice a3 m3 c3] w fun e w' => (∃ na nc ra rc, e = .returned (.agg #[.slice na h.nodes.length nc, .slice ra h.roots.length rc]) ∧ Gr w' (.slice na h.nodes.length nc) (.slice ra h.roots.length rc) h) ∧ Below w.heap.size w w')
    {xs ys : Nat → Int} (hpa : ∀ w, Below W.heap.size W w → ∀ j, j < m2 → ∃ b o, a2 = some ⟨b, o, none⟩ ∧ w.cell? ⟨b, o + j * 2, none⟩ = some (.int .i64 (xs j)) ∧ w.cell? ⟨b, o + j * 2 + 1, none⟩ = some (.int .i64 (ys j)))
    (hok : ∀ j, ok j = 0 ∨ ok j = 1 ∨ ok j = 2)
    (hs0 : ∀ w nv rv, Gr w nv rv h → ∀ j, j < m2 → ok j = 0 → Calls Try.prog 24 #[.agg #[nv, rv], .int .i64 (xs j), .int .i64 (ys j)] w fun e w' => e = .returned (.tuple #[.bool true, .nilIface]) ∧ Below w.heap.size w w')
    (hs1 : ∀ w nv rv, Gr w nv rv h → ∀ j, j < m2 → ok j = 1 → Calls Try.prog 24 #[.agg #[nv, rv], .int .i64 (xs j), .int .i64 (ys j)] w fun e w' => e = .returned (.tuple #[.bool false, .nilIface]) ∧ Below w.heap.size w w')
    (hs2 : ∀ w nv rv, Gr w nv rv h → ∀ j, j < m2 → ok j = 2 → Calls Try.prog 24 #[.agg #[nv, rv], .int .i64 (xs j), .int .i64 (ys j)] w fun e w' => (∃ b, e = .returned (.tuple #[.bool false, .iface 75 (.pointer (some ⟨b, 0, none⟩))])) ∧ Below w.heap.size w w')
    (hso : (∀ j, j < m2 → ok j = 0) → ∀ w, Below W.heap.size W w → Calls Try.prog 11 #[.agg #[.slice a0 m0 c0, .slice a1 m1 c1], .slice a2 m2 c2] w fun e w' => (∃ na nn nc ra rn rc, e = .returned (.tuple #[.agg #[.slice na nn nc, .slice ra rn rc], .bool true, .nilIface]) ∧
      ∀ w'' nv rv, Below w'.heap.size w' w'' → Gr w'' nv rv h → Calls Try.prog 18 #[.agg #[.slice na nn nc, .slice ra rn rc], .agg #[nv, rv]] w'' fun e w3 => e = .returned (.tuple #[.bool true, .nilIface]) ∧ Below w''.heap.size w'' w3) ∧ Below w.heap.size w w') :
    Calls Try.prog 6 #[.agg #[.slice a0 m0 c0, .slice a1 m1 c1], .slice a2 m2 c2, .slice a3 m3 c3] W fun e w' => e = .returned (.bool true) ∧ Below W.heap.size W w' := by
  have HB := hid (Ob.start W (.slice a0 m0 c0) (.slice a1 m1 c1))
  have Hsm := hid hsm
  have Hck := hid hck
  have Hgi := hid hgi
  have Hpa := hid hpa
  have Hok := hid hok
  have Hs0 := hid hs0
  have Hs1 := hid hs1
  have Hs2 := hid hs2
  have Hso := hid hso
  have hm' : ¬ ((60 : Int) < (m2 : Int)) := by omega
  clear hsm hck hgi hpa hok hs0 hs1 hs2 hso
  go_enter Try.func6, Try.ntmps6
  go_wp2_with (first
    | (go_at_call 9; refine (slives_any _).mono ?_; rintro e w1 ⟨rfl, hb1⟩; replace HB := hid (HB.out.next hb1); clear hb1; obtain ⟨⟨x0, x1⟩, x2⟩ := HB.out.cells)
    | (go_at_call 22; refine (Hsm.out _ HB.out.b).mono ?_; rintro e w1 ⟨rfl, hb1⟩; replace HB := hid (HB.out.next hb1); clear hb1; obtain ⟨⟨x0, x1⟩, x2⟩ := HB.out.cells)
    | (go_at_call 25; refine (Hck.out _ HB.out.b).mono ?_; rintro e w1 ⟨rfl, hb1⟩; replace HB := hid (HB.out.next hb1); clear hb1; obtain ⟨⟨x0, x1⟩, x2⟩ := HB.out.cells)
    | (go_at_call 26; refine (Hgi.out _ HB.out.b).mono ?_; rintro e w2 ⟨⟨na, nc, ra, rc, rfl, hq2⟩, hb2⟩; have HX := hid (Sg.mk ((HB.out.next hb2).next (below_alloc w2 (.cells #[.slice na h.nodes.length nc, .slice ra h.roots.length rc] 25))).b ((HB.out.next hb2).next (below_alloc w2 (.cells #[.slice na h.nodes.length nc, .slice ra h.roots.length rc] 25))).x (heap_alloc_new w2 (.cells #[.slice na h.nodes.length nc, .slice ra h.roots.length rc] 25)) (hq2.below (below_alloc w2 (.cells #[.slice na h.nodes.length nc, .slice ra h.roots.length rc] 25)))); clear hb2 hq2 x0 x1 x2 HB))
  go_loopw [39] (fun i wr => ∃ j : Nat, j ≤ m2 ∧ i = .int .i64 (j : Int) ∧ Hid (∀ i, i < j → ok i = 0) ∧ Hid (Sg W (.slice a0 m0 c0) (.slice a1 m1 c1) w2.heap.size (.slice na h.nodes.length nc) (.slice ra h.roots.length rc) h wr)) (fun i _ => m2 - (intOf i).toNat)
  case atStart => exact ⟨0, Nat.zero_le _, rfl, fun i hi => absurd hi (Nat.not_lt_zero _), HX⟩
  case round =>
    clear HX
    obtain ⟨j, hj, rfl, hall, hX⟩ := hrel
    obtain ⟨⟨q0, q1⟩, _⟩ := blk2y hX.out.h
    have zq := lt_of_block hX.out.h
    obtain ⟨⟨g0, g1⟩, _⟩ := blk2y hX.out.g
    have zg := lt_of_block hX.out.g
    by_cases hlt : j < m2
    · have hji : (j : Int) < (m2 : Int) := by omega
      obtain ⟨b, o, hao, p0, p1⟩ := Hpa.out wr hX.out.b j hlt
      subst hao
      have zb := lt_of_cell p0
      have hX1 := hid (hX.out.next (below_alloc wr (.cells #[.int .i64 (xs j), .int .i64 (ys j)] 52)))
      rcases Hok.out j with ho | ho | ho
      · have hcs := hid (Hs0.out _ _ _ hX1.out.q j hlt ho)
        have hall2 : Hid (∀ i, i < j + 1 → ok i = 0) := fun i hi => by
          by_cases e : i = j
          · subst e; exact ho
          · exact hall.out i (by omega)
        clear ho hall g0 g1
        generalize xs j = xj at *
        generalize ys j = yj at *
        go_wp2_with (go_at_call 24; refine hcs.out.mono ?_; rintro e w6 ⟨rfl, hb6⟩; have hX6 := hid (hX1.out.next hb6); clear hb6)
        go_roundw
        case rel => exact ⟨j + 1, by omega, by go_num, hall2, hX6⟩
        case measure => simp [intOf]; omega
      · have hcs := hid (Hs1.out _ _ _ hX1.out.q j hlt ho)
        clear ho hall g0 g1
        generalize xs j = xj at *
        generalize ys j = yj at *
        go_wp2_with (go_at_call 24; refine hcs.out.mono ?_; rintro e w6 ⟨rfl, hb6⟩; have hX6 := hid (hX1.out.next hb6); clear hb6)
        go_ret
        exact ⟨rfl, hX6.out.b⟩
      · have hcs := hid (Hs2.out _ _ _ hX1.out.q j hlt ho)
        clear ho hall g0 g1
        generalize xs j = xj at *
        generalize ys j = yj at *
        go_wp2_with (go_at_call 24; refine hcs.out.mono ?_; rintro e w6 ⟨⟨fb, rfl⟩, hb6⟩; have hX6 := hid (hX1.out.next hb6); clear hb6)
        go_ret
        exact ⟨rfl, hX6.out.b⟩
    · obtain rfl : j = m2 := by omega
      have hcs := hid (Hso.out (fun i hi => hall.out i hi) _ hX.out.b)
      go_wp2_with (first
        | (go_at_call 11; refine hcs.out.mono ?_; rintro e w4 ⟨⟨ma, mn, mc, ka, kn, kc, rfl, hin⟩, hb4⟩; have hX4 := hX.out.next hb4; have hX5 := hid (hX4.next (below_alloc w4 (.cells #[.slice ma mn mc, .slice ka kn kc] 25))); obtain ⟨⟨s0, s1⟩, _⟩ := blk2y hX4.h; have zs := lt_of_block hX4.h; have hci := hid (hin _ _ _ (below_alloc w4 (.cells #[.slice ma mn mc, .slice ka kn kc] 25)) hX5.out.q); clear hb4 hin hX4)
        | (go_at_call 18; refine hci.out.mono ?_; rintro e w5 ⟨rfl, hb5⟩; have hX6 := hid (hX5.out.next hb5); clear hb5))
      go_ret
      exact ⟨rfl, hX6.out.b⟩
end Go.Proofs.Ytjenkpgoggmboaa

/- SolveOrder: what lies in memory. -/
namespace Go.Proofs.Ytjenkpgoggmboaa
open Go.RowKit

/-- Two slices tell a graph, whatever becomes of one block. -/
def GrX (ab : Nat) (w : World) (nv rv : Value) (A : Gf) : Prop := ∀ w', Mo (fun k => k = ab) w w' → Gr w' nv rv A
theorem GrX.gr {ab : Nat} {w : World} {nv rv : Value} {A : Gf} (h : GrX ab w nv rv A) : Gr w nv rv A := h w (Mo.refl _ _)
theorem GrX.next {ab : Nat} {w w1 : World} {nv rv : Value} {A : Gf} (h : GrX ab w nv rv A) (hm : Mo (fun k => k = ab) w w1) : GrX ab w1 nv rv A := fun w' h2 => h w' (hm.trans h2 (fun _ hx => Or.inl hx))
theorem og_grx {ab B : Nat} {w : World} {nv rv : Value} {avs : List Value} {A : Gf} (h : Og w B nv rv avs A) (hB : ab < B) : GrX ab w nv rv A := fun w' hm => (og_keep h (fun k h1 h2 => hm.block k h2 (by omega))).gr
theorem own_cap {w : World} {B : Nat} {T : TypeId} {z : Nat} {ao : Option Addr} {n c : Nat} {xs : List Value} (h : w.ownsRow B T z (.slice ao n c) n xs) : n ≤ c := by
  rcases h.2 with ⟨e, h0⟩ | ⟨g, cap, cur, e, hb, hg, h1, _⟩
  · omega
  · injection e with _ _ e3
    omega
theorem og_cap {B : Nat} {w : World} {na ra : Option Addr} {nc rc : Nat} {avs : List Value} {A : Gf} (h : Og w B (.slice na A.nodes.length nc) (.slice ra A.roots.length rc) avs A) : A.roots.length ≤ rc := by
  obtain ⟨ao, c, e, ho⟩ := h.r
  injection e with _ _ e3
  subst e3
  exact own_cap ho
/-- The graph of the steps. -/
structure O3 (w6 : World) (g : Gf) (ps : List (Int × Int)) (j : Nat) (na : Option Addr) (nc : Nat) (ra : Option Addr) (rc : Nat) (A : Gf) (wr : World) : Prop where
  b : Below w6.heap.size w6 wr
  x : wr.heap[w6.heap.size]? = some (.cells #[.slice na A.nodes.length nc, .slice ra A.roots.length rc] 25)
  q : GrX w6.heap.size wr (.slice na A.nodes.length nc) (.slice ra A.roots.length rc) A
  c : A.roots.length ≤ rc
  s : AllS g ps j A
theorem O3.next {w6 wr w' : World} {g : Gf} {ps : List (Int × Int)} {j : Nat} {na : Option Addr} {nc : Nat} {ra : Option Addr} {rc : Nat} {A : Gf} (h : O3 w6 g ps j na nc ra rc A wr) (k : Below wr.heap.size wr w') : O3 w6 g ps j na nc ra rc A w' :=
  ⟨h.b.trans (k.mono h.b.size), (k.block _ (lt_of_block h.x)).trans h.x, h.q.next (Mo.ofBelow k), h.c, h.s⟩
theorem O3.turn {w6 wr : World} {g : Gf} {ps : List (Int × Int)} {j i : Nat} {na na' : Option Addr} {nc nc' : Nat} {ra ra' : Option Addr} {rc rc' : Nat} {A t : Gf} (h : O3 w6 g ps j na nc ra rc A wr) (hq : GrX w6.heap.size wr (.slice na' t.nodes.length nc') (.slice ra' t.roots.length rc') t) (hc : t.roots.length ≤ rc') (hs : AllS g ps i t) :
    O3 w6 g ps i na' nc' ra' rc' t ((wr.setCell ⟨w6.heap.size, 0, none⟩ (.slice na' t.nodes.length nc')).setCell ⟨w6.heap.size, 1, none⟩ (.slice ra' t.roots.length rc')) :=
  ⟨(h.b.setCell (p := ⟨w6.heap.size, 0, none⟩) (Nat.le_refl _) _).setCell (p := ⟨w6.heap.size, 1, none⟩) (Nat.le_refl _) _, blk2_set h.x, hq.next (((Mo.refl (fun k => k = w6.heap.size) wr).setCell (p := ⟨w6.heap.size, 0, none⟩) (Or.inl rfl) _).setCell (p := ⟨w6.heap.size, 1, none⟩) (Or.inl rfl) _), hc, hs⟩
/-- One root more. -/
theorem Gr5.more {w3 wr w5 : World} {ob : Nat} {nv : Value} {ao : Option Addr} {k c n : Nat} {v : Value} {xs ys : List Value} {wm : World} (hwm : wm = wr ∨ ∃ o, wm = wr.alloc o) (h : Gr5 w3 ob nv (.slice ao k c) k xs wr) (hob : ob < w3.heap.size) (hown : w5.ownsRow w3.heap.size 3 1 v n ys) (hg : wm.grownBy w5 (Value.slice ao k c).ownBlock) :
    w5.heap[ob]? = some (.cells #[nv, .slice ao k c] 25) ∧ Gr5 w3 ob nv v n ys (w5.setCell ⟨ob, 1, none⟩ v) := by
  have hs := h.m.size
  have hlo := fun q hq => (h.o.lt q hq).1
  have hm : Mo (fun q => q = ob) w3 wm ∧ wm.heap[ob]? = wr.heap[ob]? ∧ wr.heap.size ≤ wm.heap.size := by
    rcases hwm with rfl | ⟨o, rfl⟩
    · exact ⟨h.m, rfl, Nat.le_refl _⟩
    · exact ⟨h.m.alloc o, Below.heap_alloc _ _ _ (by omega), by simp⟩
  have b5 : w5.heap[ob]? = some (.cells #[nv, .slice ao k c] 25) := by
    rw [hg.block ob (by have := hm.2.2; omega) (fun e => by have := hlo ob e.symm; omega), hm.2.1]
    exact h.b
  refine ⟨b5, ?_, blk2_set1 b5, ?_⟩
  · exact (hm.1.grown hg (fun q hq => Or.inr (hlo q hq))).setCell (p := ⟨ob, 1, none⟩) (Or.inl rfl) _
  · refine row_keep hown (fun q hq => Below.heap_setCell _ _ _ _ ?_)
    have := (hown.lt q hq).1
    show q ≠ ob
    omega
theorem ri_drop {w : World} {ao : Option Addr} {c c' n : Nat} {l : List Int} (h : Ri w (.slice ao l.length c) l) (hn : n ≤ l.length) {a' : Option Addr} (ha : n < l.length → a' = ao.map (fun a => a.add n)) : Ri w (.slice a' (l.length - n) c') (l.drop n) := by
  refine ⟨a', c', by rw [List.length_drop], fun j hj => ?_⟩
  rw [List.length_drop] at hj
  obtain ⟨b, o, e, hc⟩ := h.at (j := n + j) (by omega)
  subst e
  rw [ha (by omega)]
  refine ⟨b, o + n, by simp [Addr.add], ?_⟩
  rw [Nat.add_assoc, hc]
  simp [List.getD]
/-- The start of the steps. -/
theorem o3_start {W w6 wr : World} {g : Gf} {ps : List (Int × Int)} {na : Option Addr} {nc : Nat} {rv ra : Value} {ro : Option Addr} {rc : Nat} (hG : Gr W (.slice na g.nodes.length nc) rv g) (hW : Below W.heap.size W w6) (h : Gr5 (w6.alloc (.cells #[.slice na g.nodes.length nc, ra] 25)) w6.heap.size (.slice na g.nodes.length nc) (.slice ro (g.nodes.length + g.roots.length) rc) (g.nodes.length + g.roots.length) ((allG g).roots.map (Value.int .i64)) wr) (hs : AllS g ps 0 (allG g)) :
    O3 w6 g ps 0 na nc ro rc (allG g) wr := by
  have hl : (allG g).roots.length = g.nodes.length + g.roots.length := by simp [allG]
  have hb : Below w6.heap.size w6 wr := (below_alloc w6 _).trans (h.m.below (fun k hk => by omega) (by simp))
  refine ⟨hb, ?_, fun w' hm => ⟨?_, ?_⟩, ?_, hs⟩
  · rw [hl]; exact h.b
  · have hW' : Below W.heap.size W w' := hW.trans ((hb.mono hW.size).trans (hm.below (fun k hk => by have := hW.size; omega) (Nat.le_trans hW.size hb.size)))
    exact hG.1.below hW'
  · rw [hl]
    have ho := row_keep (w' := w') h.o (fun k hk => hm.block k (h.o.lt k hk).2 (fun e => by have := (h.o.lt k hk).1; simp at this; omega))
    have h2 := Ri.ofOwn (l := (allG g).roots) (by rw [hl]; exact ho)
    rw [hl] at h2
    exact h2
  · rw [hl]; exact own_cap h.o
theorem blk_nx {w w' : World} {q : Nat} {o : Obj} (h : w.heap[q]? = some o) (hb : Below w.heap.size w w') : w'.heap[q]? = some o := (hb.block _ (lt_of_block h)).trans h
theorem ord_a (w : World) (p l : Obj) : Below w.heap.size w ((w.alloc p).alloc l).drew ∧ ((w.alloc p).alloc l).drew.heap[w.heap.size + 1]? = some l := by
  refine ⟨((below_alloc w p).alloc (by simp) l).drew, ?_⟩
  have := heap_alloc_new (w.alloc p) l
  rw [show (w.alloc p).heap.size = w.heap.size + 1 by simp] at this
  exact this
theorem ord_b (w : World) (p z l : Obj) : Below w.heap.size w (((w.alloc p).alloc z).alloc l).drew ∧ (((w.alloc p).alloc z).alloc l).drew.heap[w.heap.size + 1 + 1]? = some l ∧ (((w.alloc p).alloc z).alloc l).drew.heap[w.heap.size + 1]? = some z := by
  refine ⟨(((below_alloc w p).alloc (by simp) z).alloc (by simp; omega) l).drew, ?_, ?_⟩
  · have := heap_alloc_new ((w.alloc p).alloc z) l
    rw [show ((w.alloc p).alloc z).heap.size = w.heap.size + 1 + 1 by simp] at this
    exact this
  · have := heap_alloc_new (w.alloc p) z
    rw [show (w.alloc p).heap.size = w.heap.size + 1 by simp] at this
    exact (Below.heap_alloc _ _ _ (by simp)).trans this
theorem ord_c (w : World) (p l z : Obj) : Below w.heap.size w (((w.alloc p).alloc l).alloc z).drew ∧ (((w.alloc p).alloc l).alloc z).drew.heap[w.heap.size + 1]? = some l ∧ (((w.alloc p).alloc l).alloc z).drew.heap[w.heap.size + 1 + 1]? = some z := by
  obtain ⟨h1, h2, h3⟩ := ord_b w p l z
  exact ⟨h1, h3, h2⟩
theorem pa_2 (w : World) (p l : Obj) : ((w.alloc p).alloc l).drew.heap[w.heap.size]? = some p := (Below.heap_alloc _ _ _ (by simp)).trans (heap_alloc_new w p)
theorem pa_3 (w : World) (p l z : Obj) : (((w.alloc p).alloc l).alloc z).drew.heap[w.heap.size]? = some p := (Below.heap_alloc _ _ _ (by simp; omega)).trans ((Below.heap_alloc _ _ _ (by simp)).trans (heap_alloc_new w p))
theorem two_new {w : World} {ab : Nat} {v0 v1 : Value} (h : w.cell? ⟨ab, 0, none⟩ = some v0 ∧ w.cell? ⟨ab, 1, none⟩ = some v1) (o : Obj) : (w.alloc o).cell? ⟨ab, 0, none⟩ = some v0 ∧ (w.alloc o).cell? ⟨ab, 1, none⟩ = some v1 := ⟨((below_alloc w o).cell (p := ⟨ab, 0, none⟩) (lt_of_cell h.1)).trans h.1, ((below_alloc w o).cell (p := ⟨ab, 1, none⟩) (lt_of_cell h.2)).trans h.2⟩
theorem two_set {w : World} {ab zb : Nat} {v0 v1 : Value} (h : w.cell? ⟨ab, 0, none⟩ = some v0 ∧ w.cell? ⟨ab, 1, none⟩ = some v1) (hne : ab ≠ zb) (x y : Value) : ((w.setCell ⟨zb, 0, none⟩ x).setCell ⟨zb, 1, none⟩ y).cell? ⟨ab, 0, none⟩ = some v0 ∧ ((w.setCell ⟨zb, 0, none⟩ x).setCell ⟨zb, 1, none⟩ y).cell? ⟨ab, 1, none⟩ = some v1 := by
  have hk : ((w.setCell ⟨zb, 0, none⟩ x).setCell ⟨zb, 1, none⟩ y).heap[ab]? = w.heap[ab]? := by rw [Below.heap_setCell _ _ _ _ (by show ab ≠ zb; exact hne), Below.heap_setCell _ _ _ _ (by show ab ≠ zb; exact hne)]
  exact ⟨(World.cell?_of_block (w := w) (a := ⟨ab, 0, none⟩) hk).trans h.1, (World.cell?_of_block (w := w) (a := ⟨ab, 1, none⟩) hk).trans h.2⟩
/-- Six cells, kept. -/
def Six (ab wn rb ro xn yn : Nat) (v0 v1 : Value) (u v : Int) (w : World) : Prop := w.cell? ⟨ab, 0, none⟩ = some v0 ∧ w.cell? ⟨ab, 1, none⟩ = some v1 ∧ w.cell? ⟨wn, 0, none⟩ = some (.int .i64 (xn : Int)) ∧ w.cell? ⟨wn, 1, none⟩ = some (.int .i64 (yn : Int)) ∧ w.cell? ⟨rb, ro + xn, none⟩ = some (.int .i64 u) ∧ w.cell? ⟨rb, ro + yn, none⟩ = some (.int .i64 v)
theorem six6 {wr w' w'' : World} {ab rb ro xn yn : Nat} {v0 v1 : Value} {u v : Int} (hb : Below wr.heap.size wr w') (hp : w'.heap[wr.heap.size]? = some (.cells #[.int .i64 (xn : Int), .int .i64 (yn : Int)] 52)) (h9 : Below w'.heap.size w' w'') (y0 : wr.cell? ⟨ab, 0, none⟩ = some v0) (y1 : wr.cell? ⟨ab, 1, none⟩ = some v1) (r0 : wr.cell? ⟨rb, ro + xn, none⟩ = some (.int .i64 u)) (r1 : wr.cell? ⟨rb, ro + yn, none⟩ = some (.int .i64 v)) : Six ab wr.heap.size rb ro xn yn v0 v1 u v w'' := by
  have hc : Below wr.heap.size wr w'' := hb.trans (h9.mono hb.size)
  have hp2 := (h9.block _ (lt_of_block hp)).trans hp
  exact ⟨(hc.cell (p := ⟨ab, 0, none⟩) (lt_of_cell y0)).trans y0, (hc.cell (p := ⟨ab, 1, none⟩) (lt_of_cell y1)).trans y1, by simp [World.cell?, hp2], by simp [World.cell?, hp2], (hc.cell (p := ⟨rb, ro + xn, none⟩) (lt_of_cell r0)).trans r0, (hc.cell (p := ⟨rb, ro + yn, none⟩) (lt_of_cell r1)).trans r1⟩
theorem Six.keep {ab wn rb ro xn yn : Nat} {v0 v1 : Value} {u v : Int} {w w' : World} (h : Six ab wn rb ro xn yn v0 v1 u v w) (hk : ∀ k, (k = ab ∨ k = wn ∨ k = rb) → w'.heap[k]? = w.heap[k]?) : Six ab wn rb ro xn yn v0 v1 u v w' := by
  obtain ⟨h0, h1, h2, h3, h4, h5⟩ := h
  refine ⟨?_, ?_, ?_, ?_, ?_, ?_⟩
  · rw [World.cell?_of_block (w := w) (a := ⟨ab, 0, none⟩) (hk _ (Or.inl rfl))]; exact h0
  · rw [World.cell?_of_block (w := w) (a := ⟨ab, 1, none⟩) (hk _ (Or.inl rfl))]; exact h1
  · rw [World.cell?_of_block (w := w) (a := ⟨wn, 0, none⟩) (hk _ (Or.inr (Or.inl rfl)))]; exact h2
  · rw [World.cell?_of_block (w := w) (a := ⟨wn, 1, none⟩) (hk _ (Or.inr (Or.inl rfl)))]; exact h3
  · rw [World.cell?_of_block (w := w) (a := ⟨rb, ro + xn, none⟩) (hk _ (Or.inr (Or.inr rfl)))]; exact h4
  · rw [World.cell?_of_block (w := w) (a := ⟨rb, ro + yn, none⟩) (hk _ (Or.inr (Or.inr rfl)))]; exact h5
theorem Six.alloc {ab wn rb ro xn yn : Nat} {v0 v1 : Value} {u v : Int} {w : World} (h : Six ab wn rb ro xn yn v0 v1 u v w) (o : Obj) : Six ab wn rb ro xn yn v0 v1 u v (w.alloc o) := by
  have l0 := lt_of_cell h.1
  have l1 := lt_of_cell h.2.2.1
  have l2 := lt_of_cell h.2.2.2.2.1
  refine h.keep (fun k hk => Below.heap_alloc _ _ _ ?_)
  rcases hk with rfl | rfl | rfl
  · exact l0
  · exact l1
  · exact l2
theorem Six.drew {ab wn rb ro xn yn : Nat} {v0 v1 : Value} {u v : Int} {w : World} (h : Six ab wn rb ro xn yn v0 v1 u v w) : Six ab wn rb ro xn yn v0 v1 u v w.drew := h.keep (fun _ _ => rfl)
theorem Six.set {ab wn rb ro xn yn zb : Nat} {v0 v1 : Value} {u v : Int} {w : World} (h : Six ab wn rb ro xn yn v0 v1 u v w) (h1 : ab < wn) (h2 : rb < wn) (h3 : wn < zb) (x y : Value) : Six ab wn rb ro xn yn v0 v1 u v ((w.setCell ⟨zb, 0, none⟩ x).setCell ⟨zb, 1, none⟩ y) := by
  refine h.keep (fun k hk => ?_)
  have hne : k ≠ zb := by rcases hk with rfl | rfl | rfl <;> omega
  rw [Below.heap_setCell _ _ _ _ (by show k ≠ zb; exact hne), Below.heap_setCell _ _ _ _ (by show k ≠ zb; exact hne)]
/-- What a call has answered lies in a box. -/
structure Fin3 (wr : World) (ab : Nat) (nv rv : Value) (t : Gf) (qb : Nat) (wc : World) : Prop where
  b : Below wr.heap.size wr wc
  x : wc.heap[qb]? = some (.cells #[nv, rv] 25)
  q : GrX ab wc nv rv t
theorem og_drew {w : World} {B : Nat} {nv rv : Value} {avs : List Value} {g : Gf} (h : Og w B nv rv avs g) : Og w.drew B nv rv avs g := og_keep h (fun _ _ _ => rfl)
theorem fin_a {wr w' w9 : World} {ab : Nat} {nv rv : Value} {avs : List Value} {t : Gf} (hb : Below wr.heap.size wr w') (h9 : Below w'.heap.size w' w9) (ho : Og w9 w'.heap.size nv rv avs t) (hab : ab < wr.heap.size) : Fin3 wr ab nv rv t w9.heap.size (w9.alloc (.cells #[nv, rv] 25)) :=
  ⟨(hb.trans (h9.mono hb.size)).alloc (Nat.le_trans hb.size h9.size) _, heap_alloc_new w9 _, og_grx (og_keep ho (fun k _ h2 => Below.heap_alloc _ _ _ h2)) (by have := hb.size; omega)⟩
theorem Fin3.drew {wr wc : World} {ab qb : Nat} {nv rv : Value} {t : Gf} (h : Fin3 wr ab nv rv t qb wc) : Fin3 wr ab nv rv t qb wc.drew := ⟨h.b.drew, h.x, h.q.next (Mo.refl _ _).drew⟩
theorem fin_b {wr w' w9 : World} {ab zb : Nat} {nv rv u0 u1 : Value} {avs : List Value} {t : Gf} (hb : Below wr.heap.size wr w') (h9 : Below w'.heap.size w' w9) (ho : Og w9 w'.heap.size nv rv avs t) (hab : ab < wr.heap.size) (hz : w9.heap[zb]? = some (.cells #[u0, u1] 25)) (h1 : wr.heap.size ≤ zb) (h2 : zb < w'.heap.size) : Fin3 wr ab nv rv t zb ((w9.setCell ⟨zb, 0, none⟩ nv).setCell ⟨zb, 1, none⟩ rv) :=
  ⟨((hb.trans (h9.mono hb.size)).setCell (p := ⟨zb, 0, none⟩) h1 _).setCell (p := ⟨zb, 1, none⟩) h1 _, blk2_set hz, og_grx (og_far (og_far ho h2) h2) (by have := hb.size; omega)⟩
theorem hz_a {wr w9 : World} (h : Below wr.heap.size wr w9) : Hid (Below wr.heap.size wr (w9.alloc grZ) ∧ (w9.alloc grZ).heap[w9.heap.size]? = some grZ) := hid ⟨h.alloc h.size _, heap_alloc_new w9 _⟩
theorem hz_b {wr w9 : World} {zb : Nat} (h : Below wr.heap.size wr w9) (hz : w9.heap[zb]? = some grZ) (hle : wr.heap.size ≤ zb) : Hid (Below wr.heap.size wr ((w9.setCell ⟨zb, 0, none⟩ (.slice none 0 0)).setCell ⟨zb, 1, none⟩ (.slice none 0 0)) ∧ ((w9.setCell ⟨zb, 0, none⟩ (.slice none 0 0)).setCell ⟨zb, 1, none⟩ (.slice none 0 0)).heap[zb]? = some grZ) := hid ⟨(h.setCell (p := ⟨zb, 0, none⟩) hle _).setCell (p := ⟨zb, 1, none⟩) hle _, blk2_set hz⟩
theorem ranges_snoc (k : Nat) : ((List.range (k + 1)).map (fun n : Nat => (n : Int))).map (Value.int .i64) = ((List.range k).map (fun n : Nat => (n : Int))).map (Value.int .i64) ++ [.int .i64 (k : Int)] := by
  rw [List.range_succ]
  simp
end Go.Proofs.Ytjenkpgoggmboaa
